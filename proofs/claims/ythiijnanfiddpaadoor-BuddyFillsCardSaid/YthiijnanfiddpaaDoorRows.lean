/-
  NARROWER THAN 'FOR EVERY INPUT', by the rows' own cells (each row's printed sentence says how): BuddyChecks: laid · BuddyTakes: laid · BuddyGives: laid · BuddyBack: laid · BuddyTwo: laid · BuddyMaps: laid · BuddyFills: laid.
  DERIVED. THE GIVEN ROWS OF THIS SEAT. 7 by the template 'for every input the law returns true; each argument reads behind the call as it read before'; 0 by the template 'total and deterministic' (their statements: YthiijnanfiddpaaDoorTotals.lean).
  GIVEN WITH THE SEED: the statements are not yours to turn. If you find one false, say at which input.
  Laid BY PROGRAM, IN A SANDBOX (cutbox-rows.mjs): the forced cells as the released guide's own fill.sh prints them over the translation d9c6f82dec48c1ec… (all of the seat's roots in one cut). By AI agents, Wed Nov 11 2026. No macro, syntax, notation, axiom, sorry.
-/
import Derived.Test.YthiijnanfiddpaaDoorChecked
import GoSem.Claim
import GoSem.ClaimJoined
import GoSem.ClaimMapViews
import Derived.JoinedTies
import Derived.KernelRfl
namespace Go.Proofs.YthiijnanfiddpaaDoor
/- THE CELL 'sum', in the pinned program and in every row, IS THE sha256 OF THE DUMP (.gsa) THAT YthiijnanfiddpaaDoorProg.lean LOADS. Nothing in Lean hashes anything: it is a label: what it is worth is what the hold of that sum in a sandbox is worth. -/
noncomputable def Tryd.pinned : Pinned := { name := "ythiijnanfiddpaadoor", sum := "d9c6f82dec48c1eca813223f4ab8158a9b5cee6ccc1ff89c2bbe067e62d76175", checked := Tryd.checked }
namespace Rows
def none {H : Type} : Left H := { results := [], args := [] }

/- WHAT THE LISTED PACKAGE-LEVEL VARIABLES READ AS WHEN THE CALL BEGINS. Each datum BY PROGRAM (the guide's laid-datum.mjs) off the statement by which the dump's own 'gosem.cut.vars' lays the variable. In a bare row this is a premise. The card (YthiijnanfiddpaaDoorCards.lean) ties it to the program's text. -/
def laid_math_bits_deBruijn64tab {H : Type} : DataW H := .agg [.lit (.int .u8 0), .lit (.int .u8 1), .lit (.int .u8 56), .lit (.int .u8 2), .lit (.int .u8 57), .lit (.int .u8 49), .lit (.int .u8 28), .lit (.int .u8 3), .lit (.int .u8 61), .lit (.int .u8 58), .lit (.int .u8 42), .lit (.int .u8 50), .lit (.int .u8 38), .lit (.int .u8 29), .lit (.int .u8 17), .lit (.int .u8 4), .lit (.int .u8 62), .lit (.int .u8 47), .lit (.int .u8 59), .lit (.int .u8 36), .lit (.int .u8 45), .lit (.int .u8 43), .lit (.int .u8 51), .lit (.int .u8 22), .lit (.int .u8 53), .lit (.int .u8 39), .lit (.int .u8 33), .lit (.int .u8 30), .lit (.int .u8 24), .lit (.int .u8 18), .lit (.int .u8 12), .lit (.int .u8 5), .lit (.int .u8 63), .lit (.int .u8 55), .lit (.int .u8 48), .lit (.int .u8 27), .lit (.int .u8 60), .lit (.int .u8 41), .lit (.int .u8 37), .lit (.int .u8 16), .lit (.int .u8 46), .lit (.int .u8 35), .lit (.int .u8 44), .lit (.int .u8 21), .lit (.int .u8 52), .lit (.int .u8 32), .lit (.int .u8 23), .lit (.int .u8 11), .lit (.int .u8 54), .lit (.int .u8 26), .lit (.int .u8 40), .lit (.int .u8 15), .lit (.int .u8 34), .lit (.int .u8 20), .lit (.int .u8 31), .lit (.int .u8 10), .lit (.int .u8 25), .lit (.int .u8 14), .lit (.int .u8 19), .lit (.int .u8 9), .lit (.int .u8 13), .lit (.int .u8 8), .lit (.int .u8 7), .lit (.int .u8 6)]

/-- 'tumuluslaw04.BuddyChecks': WHATEVER THE INPUT: true; the input reads as it did. -/
def buddyChecksSpec : ChangeSpec := { name := "buddyChecks", fn := fun _ => fun
  | [d1, d2, d3] => { results := [.lit (.bool true)], args := [d1, d2, d3] }
  | _ => none }
def buddyChecksRow : OpenClaim := { program := "ythiijnanfiddpaadoor", sum := "d9c6f82dec48c1eca813223f4ab8158a9b5cee6ccc1ff89c2bbe067e62d76175", func := "tumulus/tumuluslaw04.BuddyChecks", spec := "buddyChecks", unfollowed := true, recurses := true, named := ["math/bits.deBruijn64tab"], apart := false, laid := [("math/bits.deBruijn64tab", laid_math_bits_deBruijn64tab)] }
def BuddyChecksSaid : Prop := buddyChecksRow.holds Tryd.pinned (OpenSpec.ofChange buddyChecksSpec)

/-- ITS FALSE NEIGHBOUR: 'it returns false'. Refute it at one input. -/
def buddyChecksWrong : ChangeSpec := { name := "buddyChecks", fn := fun _ => fun
  | [d1, d2, d3] => { results := [.lit (.bool false)], args := [d1, d2, d3] }
  | _ => none }
def BuddyChecksWrongFalsely : Prop := buddyChecksRow.holds Tryd.pinned (OpenSpec.ofChange buddyChecksWrong)

/-- 'tumuluslaw04.BuddyTakes': WHATEVER THE INPUT: true; the input reads as it did. -/
def buddyTakesSpec : ChangeSpec := { name := "buddyTakes", fn := fun _ => fun
  | [d1, d2, d3] => { results := [.lit (.bool true)], args := [d1, d2, d3] }
  | _ => none }
def buddyTakesRow : OpenClaim := { program := "ythiijnanfiddpaadoor", sum := "d9c6f82dec48c1eca813223f4ab8158a9b5cee6ccc1ff89c2bbe067e62d76175", func := "tumulus/tumuluslaw04.BuddyTakes", spec := "buddyTakes", unfollowed := true, recurses := true, named := ["math/bits.deBruijn64tab"], apart := false, laid := [("math/bits.deBruijn64tab", laid_math_bits_deBruijn64tab)] }
def BuddyTakesSaid : Prop := buddyTakesRow.holds Tryd.pinned (OpenSpec.ofChange buddyTakesSpec)

/-- ITS FALSE NEIGHBOUR: 'it returns false'. Refute it at one input. -/
def buddyTakesWrong : ChangeSpec := { name := "buddyTakes", fn := fun _ => fun
  | [d1, d2, d3] => { results := [.lit (.bool false)], args := [d1, d2, d3] }
  | _ => none }
def BuddyTakesWrongFalsely : Prop := buddyTakesRow.holds Tryd.pinned (OpenSpec.ofChange buddyTakesWrong)

/-- 'tumuluslaw04.BuddyGives': WHATEVER THE INPUT: true; the input reads as it did. -/
def buddyGivesSpec : ChangeSpec := { name := "buddyGives", fn := fun _ => fun
  | [d1, d2, d3] => { results := [.lit (.bool true)], args := [d1, d2, d3] }
  | _ => none }
def buddyGivesRow : OpenClaim := { program := "ythiijnanfiddpaadoor", sum := "d9c6f82dec48c1eca813223f4ab8158a9b5cee6ccc1ff89c2bbe067e62d76175", func := "tumulus/tumuluslaw04.BuddyGives", spec := "buddyGives", unfollowed := true, recurses := true, named := ["math/bits.deBruijn64tab"], apart := false, laid := [("math/bits.deBruijn64tab", laid_math_bits_deBruijn64tab)] }
def BuddyGivesSaid : Prop := buddyGivesRow.holds Tryd.pinned (OpenSpec.ofChange buddyGivesSpec)

/-- ITS FALSE NEIGHBOUR: 'it returns false'. Refute it at one input. -/
def buddyGivesWrong : ChangeSpec := { name := "buddyGives", fn := fun _ => fun
  | [d1, d2, d3] => { results := [.lit (.bool false)], args := [d1, d2, d3] }
  | _ => none }
def BuddyGivesWrongFalsely : Prop := buddyGivesRow.holds Tryd.pinned (OpenSpec.ofChange buddyGivesWrong)

/-- 'tumuluslaw04.BuddyBack': WHATEVER THE INPUT: true; the input reads as it did. -/
def buddyBackSpec : ChangeSpec := { name := "buddyBack", fn := fun _ => fun
  | [d1, d2, d3] => { results := [.lit (.bool true)], args := [d1, d2, d3] }
  | _ => none }
def buddyBackRow : OpenClaim := { program := "ythiijnanfiddpaadoor", sum := "d9c6f82dec48c1eca813223f4ab8158a9b5cee6ccc1ff89c2bbe067e62d76175", func := "tumulus/tumuluslaw04.BuddyBack", spec := "buddyBack", unfollowed := true, recurses := true, named := ["math/bits.deBruijn64tab"], apart := false, laid := [("math/bits.deBruijn64tab", laid_math_bits_deBruijn64tab)] }
def BuddyBackSaid : Prop := buddyBackRow.holds Tryd.pinned (OpenSpec.ofChange buddyBackSpec)

/-- ITS FALSE NEIGHBOUR: 'it returns false'. Refute it at one input. -/
def buddyBackWrong : ChangeSpec := { name := "buddyBack", fn := fun _ => fun
  | [d1, d2, d3] => { results := [.lit (.bool false)], args := [d1, d2, d3] }
  | _ => none }
def BuddyBackWrongFalsely : Prop := buddyBackRow.holds Tryd.pinned (OpenSpec.ofChange buddyBackWrong)

/-- 'tumuluslaw04.BuddyTwo': WHATEVER THE INPUT: true; the input reads as it did. -/
def buddyTwoSpec : ChangeSpec := { name := "buddyTwo", fn := fun _ => fun
  | [d1, d2, d3, d4] => { results := [.lit (.bool true)], args := [d1, d2, d3, d4] }
  | _ => none }
def buddyTwoRow : OpenClaim := { program := "ythiijnanfiddpaadoor", sum := "d9c6f82dec48c1eca813223f4ab8158a9b5cee6ccc1ff89c2bbe067e62d76175", func := "tumulus/tumuluslaw04.BuddyTwo", spec := "buddyTwo", unfollowed := true, recurses := true, named := ["math/bits.deBruijn64tab"], apart := false, laid := [("math/bits.deBruijn64tab", laid_math_bits_deBruijn64tab)] }
def BuddyTwoSaid : Prop := buddyTwoRow.holds Tryd.pinned (OpenSpec.ofChange buddyTwoSpec)

/-- ITS FALSE NEIGHBOUR: 'it returns false'. Refute it at one input. -/
def buddyTwoWrong : ChangeSpec := { name := "buddyTwo", fn := fun _ => fun
  | [d1, d2, d3, d4] => { results := [.lit (.bool false)], args := [d1, d2, d3, d4] }
  | _ => none }
def BuddyTwoWrongFalsely : Prop := buddyTwoRow.holds Tryd.pinned (OpenSpec.ofChange buddyTwoWrong)

/-- 'tumuluslaw04.BuddyMaps': WHATEVER THE INPUT: true; the input reads as it did. -/
def buddyMapsSpec : ChangeSpec := { name := "buddyMaps", fn := fun _ => fun
  | [d1, d2, d3] => { results := [.lit (.bool true)], args := [d1, d2, d3] }
  | _ => none }
def buddyMapsRow : OpenClaim := { program := "ythiijnanfiddpaadoor", sum := "d9c6f82dec48c1eca813223f4ab8158a9b5cee6ccc1ff89c2bbe067e62d76175", func := "tumulus/tumuluslaw04.BuddyMaps", spec := "buddyMaps", unfollowed := true, recurses := true, named := ["math/bits.deBruijn64tab"], apart := false, laid := [("math/bits.deBruijn64tab", laid_math_bits_deBruijn64tab)] }
def BuddyMapsSaid : Prop := buddyMapsRow.holds Tryd.pinned (OpenSpec.ofChange buddyMapsSpec)

/-- ITS FALSE NEIGHBOUR: 'it returns false'. Refute it at one input. -/
def buddyMapsWrong : ChangeSpec := { name := "buddyMaps", fn := fun _ => fun
  | [d1, d2, d3] => { results := [.lit (.bool false)], args := [d1, d2, d3] }
  | _ => none }
def BuddyMapsWrongFalsely : Prop := buddyMapsRow.holds Tryd.pinned (OpenSpec.ofChange buddyMapsWrong)

/-- 'tumuluslaw04.BuddyFills': WHATEVER THE INPUT: true; the input reads as it did. -/
def buddyFillsSpec : ChangeSpec := { name := "buddyFills", fn := fun _ => fun
  | [d1, d2, d3, d4] => { results := [.lit (.bool true)], args := [d1, d2, d3, d4] }
  | _ => none }
def buddyFillsRow : OpenClaim := { program := "ythiijnanfiddpaadoor", sum := "d9c6f82dec48c1eca813223f4ab8158a9b5cee6ccc1ff89c2bbe067e62d76175", func := "tumulus/tumuluslaw04.BuddyFills", spec := "buddyFills", unfollowed := true, recurses := true, named := ["math/bits.deBruijn64tab"], apart := false, laid := [("math/bits.deBruijn64tab", laid_math_bits_deBruijn64tab)] }
def BuddyFillsSaid : Prop := buddyFillsRow.holds Tryd.pinned (OpenSpec.ofChange buddyFillsSpec)

/-- ITS FALSE NEIGHBOUR: 'it returns false'. Refute it at one input. -/
def buddyFillsWrong : ChangeSpec := { name := "buddyFills", fn := fun _ => fun
  | [d1, d2, d3, d4] => { results := [.lit (.bool false)], args := [d1, d2, d3, d4] }
  | _ => none }
def BuddyFillsWrongFalsely : Prop := buddyFillsRow.holds Tryd.pinned (OpenSpec.ofChange buddyFillsWrong)

/- THE SECOND FORM. 'bulk': how many values and letters a reading holds, each counted each time it is reached (what is shared counts as often as it is met; a slice's spare places count too). A statement '..UptoSaid' is the law's where the arguments, and the package variables that the reading takes, are together of bulk at most 1048576: NARROWER than '..Said'. Prove '..Said' where nothing that the law and all that it calls make is longer than what came in: it says more and counts as full. Else prove '..UptoSaid'. A law counts once. -/
mutual
def uptoBulk {H : Type} : DataW H → Nat
  | .lit (.string bytes) => bytes.length + 1
  | .lit _ => 1
  | .nil => 1
  | .ptr d => uptoBulk d + 1
  | .slice elems spare => uptoBulkAll elems + uptoBulkAll spare + 1
  | .agg parts => uptoBulkAll parts + 1
  | .iface _ d => uptoBulk d + 1
  | .map entries => uptoBulkEntries entries + 1
  | .held _ => 1
def uptoBulkAll {H : Type} : List (DataW H) → Nat
  | [] => 0
  | d :: r => uptoBulk d + uptoBulkAll r
def uptoBulkEntries {H : Type} : List (Lit × DataW H) → Nat
  | [] => 0
  | x :: r => uptoBulkEntry x + uptoBulkEntries r
def uptoBulkEntry {H : Type} : Lit × DataW H → Nat
  | (.string bytes, d) => bytes.length + uptoBulk d + 1
  | (_, d) => uptoBulk d + 1
 end
def uptoSmall : (H : Type) → List (DataW H) → Bool := fun _ ds => decide (uptoBulkAll ds ≤ 1048576)
def OpenSpec.upto (s : _root_.Go.ChangeSpec) : _root_.Go.OpenSpec := { _root_.Go.OpenSpec.ofChange s with cond := some uptoSmall }

/-- 'tumuluslaw04.BuddyChecks', WHERE WHAT IT READS IS OF BULK AT MOST 1048576: true; the input reads as it did. -/
def buddyChecksUptoRow : OpenClaim := { program := "ythiijnanfiddpaadoor", sum := "d9c6f82dec48c1eca813223f4ab8158a9b5cee6ccc1ff89c2bbe067e62d76175", func := "tumulus/tumuluslaw04.BuddyChecks", spec := "buddyChecks", unfollowed := true, recurses := true, named := ["math/bits.deBruijn64tab"], apart := false, laid := [("math/bits.deBruijn64tab", laid_math_bits_deBruijn64tab)], narrowed := true }
def BuddyChecksUptoSaid : Prop := buddyChecksUptoRow.holds Tryd.pinned (OpenSpec.upto buddyChecksSpec)

/-- 'tumuluslaw04.BuddyTakes', WHERE WHAT IT READS IS OF BULK AT MOST 1048576: true; the input reads as it did. -/
def buddyTakesUptoRow : OpenClaim := { program := "ythiijnanfiddpaadoor", sum := "d9c6f82dec48c1eca813223f4ab8158a9b5cee6ccc1ff89c2bbe067e62d76175", func := "tumulus/tumuluslaw04.BuddyTakes", spec := "buddyTakes", unfollowed := true, recurses := true, named := ["math/bits.deBruijn64tab"], apart := false, laid := [("math/bits.deBruijn64tab", laid_math_bits_deBruijn64tab)], narrowed := true }
def BuddyTakesUptoSaid : Prop := buddyTakesUptoRow.holds Tryd.pinned (OpenSpec.upto buddyTakesSpec)

/-- 'tumuluslaw04.BuddyGives', WHERE WHAT IT READS IS OF BULK AT MOST 1048576: true; the input reads as it did. -/
def buddyGivesUptoRow : OpenClaim := { program := "ythiijnanfiddpaadoor", sum := "d9c6f82dec48c1eca813223f4ab8158a9b5cee6ccc1ff89c2bbe067e62d76175", func := "tumulus/tumuluslaw04.BuddyGives", spec := "buddyGives", unfollowed := true, recurses := true, named := ["math/bits.deBruijn64tab"], apart := false, laid := [("math/bits.deBruijn64tab", laid_math_bits_deBruijn64tab)], narrowed := true }
def BuddyGivesUptoSaid : Prop := buddyGivesUptoRow.holds Tryd.pinned (OpenSpec.upto buddyGivesSpec)

/-- 'tumuluslaw04.BuddyBack', WHERE WHAT IT READS IS OF BULK AT MOST 1048576: true; the input reads as it did. -/
def buddyBackUptoRow : OpenClaim := { program := "ythiijnanfiddpaadoor", sum := "d9c6f82dec48c1eca813223f4ab8158a9b5cee6ccc1ff89c2bbe067e62d76175", func := "tumulus/tumuluslaw04.BuddyBack", spec := "buddyBack", unfollowed := true, recurses := true, named := ["math/bits.deBruijn64tab"], apart := false, laid := [("math/bits.deBruijn64tab", laid_math_bits_deBruijn64tab)], narrowed := true }
def BuddyBackUptoSaid : Prop := buddyBackUptoRow.holds Tryd.pinned (OpenSpec.upto buddyBackSpec)

/-- 'tumuluslaw04.BuddyTwo', WHERE WHAT IT READS IS OF BULK AT MOST 1048576: true; the input reads as it did. -/
def buddyTwoUptoRow : OpenClaim := { program := "ythiijnanfiddpaadoor", sum := "d9c6f82dec48c1eca813223f4ab8158a9b5cee6ccc1ff89c2bbe067e62d76175", func := "tumulus/tumuluslaw04.BuddyTwo", spec := "buddyTwo", unfollowed := true, recurses := true, named := ["math/bits.deBruijn64tab"], apart := false, laid := [("math/bits.deBruijn64tab", laid_math_bits_deBruijn64tab)], narrowed := true }
def BuddyTwoUptoSaid : Prop := buddyTwoUptoRow.holds Tryd.pinned (OpenSpec.upto buddyTwoSpec)

/-- 'tumuluslaw04.BuddyMaps', WHERE WHAT IT READS IS OF BULK AT MOST 1048576: true; the input reads as it did. -/
def buddyMapsUptoRow : OpenClaim := { program := "ythiijnanfiddpaadoor", sum := "d9c6f82dec48c1eca813223f4ab8158a9b5cee6ccc1ff89c2bbe067e62d76175", func := "tumulus/tumuluslaw04.BuddyMaps", spec := "buddyMaps", unfollowed := true, recurses := true, named := ["math/bits.deBruijn64tab"], apart := false, laid := [("math/bits.deBruijn64tab", laid_math_bits_deBruijn64tab)], narrowed := true }
def BuddyMapsUptoSaid : Prop := buddyMapsUptoRow.holds Tryd.pinned (OpenSpec.upto buddyMapsSpec)

/-- 'tumuluslaw04.BuddyFills', WHERE WHAT IT READS IS OF BULK AT MOST 1048576: true; the input reads as it did. -/
def buddyFillsUptoRow : OpenClaim := { program := "ythiijnanfiddpaadoor", sum := "d9c6f82dec48c1eca813223f4ab8158a9b5cee6ccc1ff89c2bbe067e62d76175", func := "tumulus/tumuluslaw04.BuddyFills", spec := "buddyFills", unfollowed := true, recurses := true, named := ["math/bits.deBruijn64tab"], apart := false, laid := [("math/bits.deBruijn64tab", laid_math_bits_deBruijn64tab)], narrowed := true }
def BuddyFillsUptoSaid : Prop := buddyFillsUptoRow.holds Tryd.pinned (OpenSpec.upto buddyFillsSpec)

end Rows
end Go.Proofs.YthiijnanfiddpaaDoor

/-
  What the document's own answers for layer 1, and the statements' own helpers (lent bytes, kept bytes), do: contracts, one a function.
-/
import Derived.Test.YtcogglanbpphpaaCdPut
namespace Go.Proofs.Ytcogglanbpphpaa
open Go.RowKit

/-- The relation of Eight's loop, which goes down. -/
def EightRel (u : Nat) (w : World) (v i : Value) (wr : World) : Prop :=
  ∃ k : Nat, k ≤ 8 ∧ i = .int .i64 (7 - (k : Int)) ∧ Own 5 wr w.heap.size v ((be 8 u).take k) ∧ Below w.heap.size w wr

end Go.Proofs.Ytcogglanbpphpaa

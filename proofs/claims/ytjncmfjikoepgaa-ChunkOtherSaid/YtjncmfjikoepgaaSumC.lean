/-
  What bytes.Equal, bytes.Clone and Open do: contracts, one a function.
-/
import Derived.Test.YtjncmfjikoepgaaSumB
namespace Go.Proofs.Ytjncmfjikoepgaa
open Go.RowKit

/-- Bytes are sealed: the last four are those of the sum of the others. -/
def sealOf (l : List UInt8) : List UInt8 := l ++ be 4 (sumOf l).toNat

end Go.Proofs.Ytjncmfjikoepgaa

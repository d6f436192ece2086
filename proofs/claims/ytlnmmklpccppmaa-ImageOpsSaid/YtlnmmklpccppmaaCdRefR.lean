/-
  The document's own answers on reading, and the walks of the laws on readers.
-/
import Derived.Test.YtlnmmklpccppmaaCdReader
namespace Go.Proofs.Ytlnmmklpccppmaa
open Go.RowKit

theorem ofbe4 (a b c d : UInt8) (l : List UInt8) : ofbe ((a :: b :: c :: d :: l).take 4) = 16777216 * a.toNat + 65536 * b.toNat + 256 * c.toNat + d.toNat := by
  simp [ofbe]; omega
theorem four_of {l : List UInt8} (h : 4 ≤ l.length) : ∃ a b c d r, l = a :: b :: c :: d :: r := by
  match l, h with
  | a :: b :: c :: d :: r, _ => exact ⟨a, b, c, d, r, rfl⟩

/-- What the document's own reading answers. -/
def TellsR (w : World) (v : Value) (k : Nat) (er : Int) (e : Ending) (w' : World) : Prop := e = .returned (.tuple #[v, .int .i64 (k : Int), .int .i64 er]) ∧ Below w.heap.size w w'
end Go.Proofs.Ytlnmmklpccppmaa

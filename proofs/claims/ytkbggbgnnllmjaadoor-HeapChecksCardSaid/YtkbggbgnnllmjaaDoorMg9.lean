/-
  What the calls by which the library's heap asks do: contracts, one a function.
  What the library's heap does with the blocks that wait: contracts, one a function.
-/
import Derived.Test.YtkbggbgnnllmjaaDoorMg8
import Derived.Deep.DeepCutAuto
namespace Go.Proofs.YtkbggbgnnllmjaaDoor
open Go.RowKit

theorem run_assert (x o : Int) (W : World) : Sem.run Tryd.prog (Instr.typeAssert (.iface 38 (.agg #[.int .i64 x, .int .i64 o])) 20 38 true) W = .ok (.tuple #[.agg #[.int .i64 x, .int .i64 o], .bool true]) W := by kernel_rfl
theorem grew_one (w : World) (o : Obj) : Grew w (w.alloc o) := (Grew.refl w).alloc o

end Go.Proofs.YtkbggbgnnllmjaaDoor
namespace Go.Proofs.YtkbggbgnnllmjaaDoor
open Go.RowKit

end Go.Proofs.YtkbggbgnnllmjaaDoor

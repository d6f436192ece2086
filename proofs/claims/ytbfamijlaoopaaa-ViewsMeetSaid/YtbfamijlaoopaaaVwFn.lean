/-
  The program's own Nodes, Primary, Next, Enough, Sure, Best: contracts, as the statements' walks take them.
-/
import Derived.Test.YtbfamijlaoopaaaVwFnB
import Derived.Test.YtbfamijlaoopaaaVwFnD
import Derived.Test.YtbfamijlaoopaaaVwFnF
namespace Go.Proofs.Ytbfamijlaoopaaa
open Go.RowKit
theorem same_blw {w w' : World} (h : w' = w) : Below w.heap.size w w' := by rw [h]; exact Below.refl _ _
theorem vnodes_any (n : Int) (w : World) : Calls Try.prog 12 #[.int .i64 n] w fun e w' => e = .returned (.bool (isN n)) ∧ Below w.heap.size w w' :=
  (vnodes0 n w).mono fun _ _ h => ⟨h.1, same_blw h.2⟩
theorem vprim_any (n v : Int) (w : World) : Calls Try.prog 14 #[.int .i64 n, .int .i64 v] w fun e w' => e = .returned (.int .i64 (prim n v)) ∧ Below w.heap.size w w' :=
  (vprim0 n v w).mono fun _ _ h => ⟨h.1, same_blw h.2⟩
theorem vnext_any (n v id : Int) (w : World) : Calls Try.prog 16 #[.int .i64 n, .int .i64 v, .int .i64 id] w fun e w' => e = .returned (.int .i64 (nextV n v id)) ∧ Below w.heap.size w w' :=
  (vnext0 n v id w).mono fun _ _ h => ⟨h.1, same_blw h.2⟩
theorem venough_any {A : Option Addr} {m c : Nat} {l : List Int} {w : World} (h : RdN w A m l) (hm : m ≤ 10000) (n : Int) : Calls Try.prog 18 #[.int .i64 n, .slice A m c] w fun e w' => e = .returned (.bool (enough n l)) ∧ Below w.heap.size w w' :=
  (venough0 h (by omega) n).mono fun _ _ h => ⟨h.1, same_blw h.2⟩
theorem vsure_any {A : Option Addr} {m c : Nat} {l : List (Int × Int)} {w : World} (h : RdK w A m l) (hm : m ≤ 10000) (n own : Int) : Calls Try.prog 20 #[.int .i64 n, .int .i64 own, .slice A m c] w fun e w' => e = .returned (.int .i64 (sureV n own l)) ∧ Below w.heap.size w w' :=
  vsure0 h (by omega) n own
theorem vbest_any {A : Option Addr} {m c : Nat} {l : List Vt} {w : World} (h : RdT w A m l) (hm : m ≤ 10000) : Calls Try.prog 24 #[.slice A m c] w fun e w' => e = .returned (.int .i64 (bestP l l.length)) ∧ Below w.heap.size w w' :=
  vbest0 h (by omega)
end Go.Proofs.Ytbfamijlaoopaaa

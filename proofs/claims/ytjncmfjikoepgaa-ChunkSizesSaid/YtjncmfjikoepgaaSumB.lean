/-
  What Sum, More and Seal do: contracts, one a function.
-/
import Derived.Test.YtjncmfjikoepgaaSumA
namespace Go.Proofs.Ytjncmfjikoepgaa
open Go.RowKit

/-- The sum of these bytes. -/
def sumOf (l : List UInt8) : BitVec 32 := crc 0#32 l
def GivesSI (w : World) (s : BitVec 32) (e : Ending) (w' : World) : Prop := e = .returned (.int .i64 (s.toNat : Int)) ∧ Below w.heap.size w w'
def GivesM (w : World) (s : BitVec 32) (e : Ending) (w' : World) : Prop := e = .returned (.tuple #[.int .i64 (s.toNat : Int), .int .i64 0]) ∧ Below w.heap.size w w'

set_option maxHeartbeats 400000 in
theorem sum_any (A : Option Addr) (n c : Nat) (l : List UInt8) (w : World) (hb : Rd w A n l) (hn : n ≤ maxLen) :
    Calls Try.prog 22 #[.slice A n c] w (GivesSI w (sumOf l)) := by
  go_enter Try.func22, Try.ntmps22
  go_wp2_with fail
  refine (through_any 0#32 A n c l w hb hn).mono ?_
  rintro e w1 ⟨rfl, bel⟩
  have hlt := (crc 0#32 l).isLt
  have hw : wrap64 ((crc 0#32 l).toNat : Int) = ((crc 0#32 l).toNat : Int) := by unfold wrap64; omega
  go_wp2
  go_ret
  exact ⟨rfl, bel⟩

/-- A block that holds an int. -/
def BoxI (w : World) (g : Nat) (m : Int) : Prop := w.heap[g]? = some (.cells #[.int .i64 m] 3 (0, 0))

/-- The relation of the loop that lays the sum behind the bytes. -/
def SealRel (l : List UInt8) (s base : Nat) (w : World) (v i : Value) (wr : World) : Prop :=
  ∃ k : Nat, k ≤ 4 ∧ i = .int .i64 k ∧ Own 5 wr base v (l ++ (be 4 s).take k) ∧ Below base w wr

end Go.Proofs.Ytjncmfjikoepgaa

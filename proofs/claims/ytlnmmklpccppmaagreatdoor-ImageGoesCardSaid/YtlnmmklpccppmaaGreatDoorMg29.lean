/-
  Words for the laws of a heap; the law HeapWords, walked.
-/
import Derived.Test.YtlnmmklpccppmaaGreatDoorMg28
import Derived.Test.YtlnmmklpccppmaaGreatDoorMg15
import Derived.Test.YtlnmmklpccppmaaGreatDoorMg22
import Derived.Test.YtlnmmklpccppmaaGreatDoorMg23
namespace Go.Proofs.YtlnmmklpccppmaaGreatDoor
open Go.RowKit

theorem right_small {H : Hp} (k : RightH H) : SmallH H := by
  refine ⟨by have := k.len; omega, by have := k.fr.len256; omega, fun x hx => ?_⟩
  have h1 := (k.ok x hx).2.2
  have h2 := needI_in (w := x.ws.length) (l := x.ls.length) (by rw [h1.1]; exact h1.2.1.1)
  omega
theorem small_zeroH : SmallH zeroH := ⟨by simp [zeroH], by simp [zeroH], fun x hx => by cases hx⟩
theorem doH_is {H : Hp} (o : Opn) : (RightH H ∧ doH H o = doneH H o ∧ RightH (doneH H o).1) ∨ (¬ RightH H ∧ doH H o = (zeroH, 1, 0)) := by
  by_cases k : RightH H
  · exact .inl ⟨k, doH_right k, (doneH_right k o).1⟩
  · exact .inr ⟨k, doH_wrong k⟩
theorem doH_small {H : Hp} (o : Opn) : SmallH (doH H o).1 := by
  rcases doH_is (H := H) o with ⟨_, h1, h2⟩ | ⟨_, h1⟩ <;> rw [h1]
  · exact right_small h2
  · exact small_zeroH
theorem run_eql_res (x o y p : Int) (W : World) : (binOp .eql 59 (.agg #[.int .i64 x, .int .i64 o]) (.agg #[.int .i64 y, .int .i64 p])).run Tryz.prog W = .ok (.bool (sameB (x, o) (y, p))) W := by
  have u3 := Tryz.underlying3
  have a3 := Tryz.isAgg3
  have z3 := Tryz.sizeOf3
  have u4 := Tryz.underlying30
  have a4 := Tryz.isAgg30
  have z4 := Tryz.sizeOf30
  have hS : Tryz.prog.underlying 59 = some (.struct (Tryz.prog.fieldsOf 59)) := by kernel_rfl
  have hp : Tryz.prog.stoodInHeld 59 = false := by kernel_rfl
  rw [run_eql_struct, show (10000 : Nat) = 9999 + 1 from rfl, run_equalIn_agg W 9999 59 _ _ hS hp]
  simp only [Program.fieldsOf, Tryz.underlying59]
  unfold sameB
  go_simp
  by_cases h1 : x = y <;> by_cases h2 : o = p <;> simp [h1, h2]
/-- What came of an operation lies in two boxes. -/
theorem box_two (w : World) (a0 a1 a2 a3 a4 a5 a6 a7 b0 b1 : Value) :
    ∃ p W, (w.alloc (.cells #[a0, a1, a2, a3, a4, a5, a6, a7] 26)).alloc (.cells #[b0, b1] 59) = W ∧ p = w.heap.size ∧ Whole W p 26 [a0, a1, a2, a3, a4, a5, a6, a7] ∧ Whole W (p + 1) 59 [b0, b1] ∧ Below w.heap.size w W := by
  have k1 := (Whole.new w #[a0, a1, a2, a3, a4, a5, a6, a7] 26).alloc (.cells #[b0, b1] 59)
  have k2 := Whole.new (w.alloc (.cells #[a0, a1, a2, a3, a4, a5, a6, a7] 26)) #[b0, b1] 59
  rw [show (w.alloc (.cells #[a0, a1, a2, a3, a4, a5, a6, a7] 26)).heap.size = w.heap.size + 1 by simp] at k2
  exact ⟨_, _, rfl, rfl, k1, k2, (((Grew.refl w).alloc _).alloc _).below⟩
theorem Whole.two {w : World} {g : Nat} {t : TypeId} {a0 a1 : Value} (h : Whole w g t [a0, a1]) : w.cell? ⟨g, 0, none⟩ = some a0 ∧ w.cell? ⟨g, 1, none⟩ = some a1 := ⟨h.cell 0, h.cell 1⟩

end Go.Proofs.YtlnmmklpccppmaaGreatDoor

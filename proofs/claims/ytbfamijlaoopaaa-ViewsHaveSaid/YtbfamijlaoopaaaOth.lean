/-
  What calls leave alone: all but the blocks of a set. Plain lemmas, no condition of their own.
-/
import Derived.Test.YtbfamijlaoopaaaBase
import Derived.Test.YtbfamijlaoopaaaVals
namespace Go.Proofs.Ytbfamijlaoopaaa
open Go.RowKit

/-! ### What stays -/
/-- All but the blocks of X stays as it was. -/
structure Oth (X : Nat → Prop) (w w' : World) : Prop where
  os : w'.os = w.os
  tape : w'.tape = w.tape
  output : w'.output = w.output
  size : w.heap.size ≤ w'.heap.size
  block : ∀ k, k < w.heap.size → ¬ X k → w'.heap[k]? = w.heap[k]?
section
variable {X Y : Nat → Prop} {a b c w w' : World}
theorem Oth.refl (X : Nat → Prop) (w : World) : Oth X w w := ⟨rfl, rfl, rfl, Nat.le_refl _, fun _ _ _ => rfl⟩
theorem Oth.trans (h : Oth X a b) (k : Oth X b c) : Oth X a c :=
  ⟨k.os.trans h.os, k.tape.trans h.tape, k.output.trans h.output, Nat.le_trans h.size k.size, fun i hi hx => (k.block i (Nat.lt_of_lt_of_le hi h.size) hx).trans (h.block i hi hx)⟩
theorem Oth.mono (h : Oth X w w') (hXY : ∀ k, X k → Y k) : Oth Y w w' := ⟨h.os, h.tape, h.output, h.size, fun k hk hy => h.block k hk fun hx => hy (hXY k hx)⟩
theorem Oth.of_below (h : Below w.heap.size w w') (X : Nat → Prop) : Oth X w w' := ⟨h.os, h.tape, h.output, h.size, fun k hk _ => h.block k hk⟩
theorem Oth.of_grown {r : Nat} (h : w.grownBy w' (some r)) (hr : X r) : Oth X w w' := ⟨h.os, h.tape, h.output, h.size, fun k hk hx => h.block k hk (by simp; rintro rfl; exact hx hr)⟩
theorem Oth.alloc (h : Oth X w w') (o : Obj) : Oth X w (w'.alloc o) := h.trans (Oth.of_below ((Below.refl _ _).alloc (Nat.le_refl _) o) X)
theorem Oth.drew (h : Oth X w w') : Oth X w w'.drew := ⟨h.os, h.tape, h.output, h.size, h.block⟩
theorem Oth.set (h : Oth X w w') {g : Nat} (hg : X g) (j : Nat) (v : Value) : Oth X w (w'.setCell ⟨g, j, none⟩ v) := h.trans (Oth.of_grown (grown_set w' g j v) hg)
/-- Nothing of X lies below B. -/
theorem Oth.below (h : Oth X w w') {B : Nat} (hX : ∀ k, X k → B ≤ k) (hB : B ≤ w.heap.size) : Below B w w' :=
  ⟨h.os, h.tape, h.output, h.size, fun k hk => h.block k (Nat.lt_of_lt_of_le hk hB) fun hx => by have := hX k hx; omega⟩
end
theorem grown_setCells (g : Nat) : ∀ (vs : List Value) (o : Nat) (w : World), w.grownBy (w.setCells g o vs) (some g)
  | [], _, w => grown_refl w _
  | v :: r, o, w => grown_trans (grown_set w g o v) (grown_setCells g r (o + 1) _)
end Go.Proofs.Ytbfamijlaoopaaa

/-
  An operation has just these bytes, and comes back: the walk of the statement.
-/
import Derived.Test.YtlnmmklpccppmaaGreatDoorTg36
import Derived.Test.YtlnmmklpccppmaaGreatDoorTg34
import Derived.Deep.RegionWith
import Derived.Deep.Slices
import Derived.OpenShut
import Derived.ChangeSame
namespace Go.Proofs.YtlnmmklpccppmaaGreatDoor
open Go.ChangeShapes Go.WideShapes Go.Deep Go.RowKit
theorem list7i {α : Type} {l : List α} (h : l.length = 7) : ∃ a b c d e f g, l = [a, b, c, d, e, f, g] := by
  match l, h with
  | [a, b, c, d, e, f, g], _ => exact ⟨a, b, c, d, e, f, g, rfl⟩
theorem wf_int {a : Int} (h : (Lit.int .i64 a).wf = true) : IsInt a := by
  simpa [IsInt, Lit.wf, IntKind.min, IntKind.max, IntKind.signed, IntKind.bits] using h
section
variable {H : Type} {enc : TypeId × Value → H} {w : World}
theorem trod_fields7i {P : Program} {b0 : Nat} {sp : Nat → Bool} {hd : Bool} {t : TypeId} {f0 f1 f2 f3 f4 f5 f6 : Field} {cs : List Value} {fuel : Nat} {x : DataW H × List MemPlace} (ht : P.underlying t = some (.struct #[f0, f1, f2, f3, f4, f5, f6])) (h : DataW.trod enc P w b0 sp hd fuel t cs = some x) :
    ∃ n y0 y1 y2 y3 y4 y5 y6, cs.length = P.cellsOf t ∧ DataW.trod enc P w b0 sp hd n f0.type ((cs.drop f0.offset).take (P.cellsOf f0.type)) = some y0 ∧ DataW.trod enc P w b0 sp hd n f1.type ((cs.drop f1.offset).take (P.cellsOf f1.type)) = some y1 ∧ DataW.trod enc P w b0 sp hd n f2.type ((cs.drop f2.offset).take (P.cellsOf f2.type)) = some y2 ∧ DataW.trod enc P w b0 sp hd n f3.type ((cs.drop f3.offset).take (P.cellsOf f3.type)) = some y3 ∧ DataW.trod enc P w b0 sp hd n f4.type ((cs.drop f4.offset).take (P.cellsOf f4.type)) = some y4 ∧ DataW.trod enc P w b0 sp hd n f5.type ((cs.drop f5.offset).take (P.cellsOf f5.type)) = some y5 ∧ DataW.trod enc P w b0 sp hd n f6.type ((cs.drop f6.offset).take (P.cellsOf f6.type)) = some y6 := by
  obtain ⟨xs, n, _, _, hlen, hxl, hg⟩ := DataW.trod_struct ht h
  have hxl2 : xs.length = 7 := hxl
  obtain ⟨y0, y1, y2, y3, y4, y5, y6, rfl⟩ := list7i hxl2
  exact ⟨n, y0, y1, y2, y3, y4, y5, y6, hlen, hg 0 f0 rfl, hg 1 f1 rfl, hg 2 f2 rfl, hg 3 f3 rfl, hg 4 f4 rfl, hg 5 f5 rfl, hg 6 f6 rfl⟩
/-- An operation that came in: seven ints. -/
def IsOp7 (l : List Int) : Prop := l.length = 7 ∧ ∀ x ∈ l, IsInt x
theorem op7_open {cs : List Value} {fuel : Nat} {x : DataW H × List MemPlace} (h : DataW.trod enc Tryz.prog w 0 (fun _ => true) true fuel 50 cs = some x) : ∃ l, cs = intvs l ∧ IsOp7 l := by
  have hI : Tryz.prog.cellsOf 3 = 1 := by kernel_rfl
  have hK : Tryz.prog.cellsOf 48 = 1 := by kernel_rfl
  have hO : Tryz.prog.cellsOf 50 = 7 := by kernel_rfl
  obtain ⟨n, y0, y1, y2, y3, y4, y5, y6, hlen, g0, g1, g2, g3, g4, g5, g6⟩ := trod_fields7i Tryz.underlying50 h
  rw [hO] at hlen
  obtain ⟨c0, c1, c2, c3, c4, c5, c6, rfl⟩ := list7i hlen
  simp only [hI, hK, List.drop_zero, List.drop_succ_cons, List.take_succ_cons, List.take_zero] at g0 g1 g2 g3 g4 g5 g6
  obtain ⟨a0, e0, _, w0⟩ := DataW.trod_int Tryz.underlying48 g0
  obtain ⟨a1, e1, _, w1⟩ := DataW.trod_int Tryz.underlying3 g1
  obtain ⟨a2, e2, _, w2⟩ := DataW.trod_int Tryz.underlying3 g2
  obtain ⟨a3, e3, _, w3⟩ := DataW.trod_int Tryz.underlying3 g3
  obtain ⟨a4, e4, _, w4⟩ := DataW.trod_int Tryz.underlying3 g4
  obtain ⟨a5, e5, _, w5⟩ := DataW.trod_int Tryz.underlying3 g5
  obtain ⟨a6, e6, _, w6⟩ := DataW.trod_int Tryz.underlying3 g6
  simp at e0 e1 e2 e3 e4 e5 e6
  subst e0 e1 e2 e3 e4 e5 e6
  refine ⟨[a0, a1, a2, a3, a4, a5, a6], rfl, rfl, fun x hx => ?_⟩
  simp only [List.mem_cons, List.not_mem_nil, or_false] at hx
  rcases hx with rfl | rfl | rfl | rfl | rfl | rfl | rfl
  · exact wf_int w0
  · exact wf_int w1
  · exact wf_int w2
  · exact wf_int w3
  · exact wf_int w4
  · exact wf_int w5
  · exact wf_int w6
end
end Go.Proofs.YtlnmmklpccppmaaGreatDoor

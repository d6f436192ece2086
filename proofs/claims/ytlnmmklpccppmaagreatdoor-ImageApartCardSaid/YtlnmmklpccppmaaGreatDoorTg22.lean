/-
  A heap that came in, as a row's frame opens it, reads as a heap. Plain lemmas.
-/
import Derived.Test.YtlnmmklpccppmaaGreatDoorTg14
import Derived.Deep.Slices
import Derived.Lib.SmallJoins
import Derived.OpenShut
import Derived.ChangeSame
namespace Go.Proofs.YtlnmmklpccppmaaGreatDoor
open Go.ChangeShapes Go.WideShapes Go.Deep Go.Joins Go.RowKit
theorem wf_i64 {a : Int} (h : (Lit.int .i64 a).wf = true) : -9223372036854775808 ≤ a ∧ a ≤ 9223372036854775807 := by
  simpa [Lit.wf, IntKind.min, IntKind.max, IntKind.signed, IntKind.bits] using h
theorem list4 {α : Type} {l : List α} (h : l.length = 4) : ∃ a b c d, l = [a, b, c, d] := by
  match l, h with
  | [a, b, c, d], _ => exact ⟨a, b, c, d, rfl⟩
theorem list5 {α : Type} {l : List α} (h : l.length = 5) : ∃ a b c d e, l = [a, b, c, d, e] := by
  match l, h with
  | [a, b, c, d, e], _ => exact ⟨a, b, c, d, e, rfl⟩
theorem list8 {α : Type} {l : List α} (h : l.length = 8) : ∃ a b c d e f g i, l = [a, b, c, d, e, f, g, i] := by
  match l, h with
  | [a, b, c, d, e, f, g, i], _ => exact ⟨a, b, c, d, e, f, g, i, rfl⟩
section
variable {H : Type} {enc : TypeId × Value → H} {w : World}
theorem trod_fields4 {P : Program} {b0 : Nat} {sp : Nat → Bool} {hd : Bool} {t : TypeId} {f0 f1 f2 f3 : Field} {cs : List Value} {fuel : Nat} {x : DataW H × List MemPlace} (ht : P.underlying t = some (.struct #[f0, f1, f2, f3])) (h : DataW.trod enc P w b0 sp hd fuel t cs = some x) :
    ∃ n y0 y1 y2 y3, cs.length = P.cellsOf t ∧ DataW.trod enc P w b0 sp hd n f0.type ((cs.drop f0.offset).take (P.cellsOf f0.type)) = some y0 ∧ DataW.trod enc P w b0 sp hd n f1.type ((cs.drop f1.offset).take (P.cellsOf f1.type)) = some y1 ∧ DataW.trod enc P w b0 sp hd n f2.type ((cs.drop f2.offset).take (P.cellsOf f2.type)) = some y2 ∧ DataW.trod enc P w b0 sp hd n f3.type ((cs.drop f3.offset).take (P.cellsOf f3.type)) = some y3 := by
  obtain ⟨xs, n, _, _, hlen, hxl, hg⟩ := DataW.trod_struct ht h
  have hxl2 : xs.length = 4 := hxl
  obtain ⟨y0, y1, y2, y3, rfl⟩ := list4 hxl2
  exact ⟨n, y0, y1, y2, y3, hlen, hg 0 f0 rfl, hg 1 f1 rfl, hg 2 f2 rfl, hg 3 f3 rfl⟩
theorem trod_fields5 {P : Program} {b0 : Nat} {sp : Nat → Bool} {hd : Bool} {t : TypeId} {f0 f1 f2 f3 f4 : Field} {cs : List Value} {fuel : Nat} {x : DataW H × List MemPlace} (ht : P.underlying t = some (.struct #[f0, f1, f2, f3, f4])) (h : DataW.trod enc P w b0 sp hd fuel t cs = some x) :
    ∃ n y0 y1 y2 y3 y4, cs.length = P.cellsOf t ∧ DataW.trod enc P w b0 sp hd n f0.type ((cs.drop f0.offset).take (P.cellsOf f0.type)) = some y0 ∧ DataW.trod enc P w b0 sp hd n f1.type ((cs.drop f1.offset).take (P.cellsOf f1.type)) = some y1 ∧ DataW.trod enc P w b0 sp hd n f2.type ((cs.drop f2.offset).take (P.cellsOf f2.type)) = some y2 ∧ DataW.trod enc P w b0 sp hd n f3.type ((cs.drop f3.offset).take (P.cellsOf f3.type)) = some y3 ∧ DataW.trod enc P w b0 sp hd n f4.type ((cs.drop f4.offset).take (P.cellsOf f4.type)) = some y4 := by
  obtain ⟨xs, n, _, _, hlen, hxl, hg⟩ := DataW.trod_struct ht h
  have hxl2 : xs.length = 5 := hxl
  obtain ⟨y0, y1, y2, y3, y4, rfl⟩ := list5 hxl2
  exact ⟨n, y0, y1, y2, y3, y4, hlen, hg 0 f0 rfl, hg 1 f1 rfl, hg 2 f2 rfl, hg 3 f3 rfl, hg 4 f4 rfl⟩
theorem hblks_open {A : Option Addr} {len cap fuel : Nat} {x : DataW H × List MemPlace}
    (h : DataW.trod enc Tryz.prog w 0 (fun _ => true) true fuel 24 [.slice A len cap] = some x) : ∃ l, RdS w A len l := by
  have h2 : Tryz.prog.cellsOf 65 = 2 := by kernel_rfl
  have hI : Tryz.prog.cellsOf 3 = 1 := by kernel_rfl
  rcases open_slice Tryz.underlying24 h with ⟨hcs, _⟩ | ⟨a, len', cap', m, n, D, Pl, hcs, _, hl, _, hm, _, hi⟩
  · simp at hcs
    obtain ⟨rfl, rfl, rfl⟩ := hcs
    exact ⟨[], RdS.nil⟩
  · simp at hcs
    obtain ⟨rfl, rfl, rfl⟩ := hcs
    simp only [if_true] at hm
    subst hm
    have key : ∀ i, i < m → ∃ b : Blk, w.cell? (a.add (i * 2)) = some (.int .i64 b.1) ∧ w.cell? ((a.add (i * 2)).add 1) = some (.int .i64 b.2) := fun i hlt => by
      obtain ⟨cs, hc, ht⟩ := hi i hlt
      rw [h2] at hc
      obtain ⟨_, hcl, hat⟩ := World.cells?_some hc
      match cs, hcl with
      | [c0, c1], _ =>
        obtain ⟨y0, y1, n', _, _, t0, t1⟩ := trod_struct2 Tryz.underlying65 ht
        simp only [hI, List.drop_zero, List.drop_succ_cons, List.take_succ_cons, List.take_zero] at t0 t1
        obtain ⟨p, e0, _, _⟩ := DataW.trod_int Tryz.underlying3 t0
        obtain ⟨q, e1, _, _⟩ := DataW.trod_int Tryz.underlying3 t1
        have z0 := hat 0 (by omega)
        have z1 := hat 1 (by omega)
        simp at e0 e1 z0 z1
        subst e0
        subst e1
        exact ⟨(p, q), by simpa [Addr.add] using z0, z1⟩
    have key2 : ∀ k, k ≤ m → ∃ l : List Blk, l.length = k ∧ ∀ j x, l[j]? = some x → w.cell? (a.add (j * 2)) = some (.int .i64 x.1) ∧ w.cell? ((a.add (j * 2)).add 1) = some (.int .i64 x.2) := by
      intro k
      induction k with
      | zero => intro _; exact ⟨[], rfl, fun j x hj => by simp at hj⟩
      | succ k ih =>
        intro hk
        obtain ⟨l, h1, h2⟩ := ih (by omega)
        obtain ⟨b, hb⟩ := key k (by omega)
        refine ⟨l ++ [b], by simp [h1], fun j x hj => ?_⟩
        by_cases hjk : j < k
        · rw [List.getElem?_append_left (by omega)] at hj
          exact h2 j x hj
        · have hlt := (List.getElem?_eq_some_iff.1 hj).1
          simp [h1] at hlt
          obtain rfl : j = k := by omega
          rw [List.getElem?_append_right (by omega), h1, Nat.sub_self] at hj
          simp at hj
          subst hj
          exact hb
    obtain ⟨l, hl', hc⟩ := key2 len hl
    refine ⟨l, hl', fun h0 => ?_⟩
    obtain ⟨b, off, spot⟩ := a
    obtain ⟨b0, hk, _⟩ := key 0 (by omega)
    have hspot : spot = none := by simpa [Addr.add] using World.cell?_spot hk
    subst hspot
    have hlt : b < w.heap.size := by
      have := World.block_lt_of_cell? w _ hk
      simpa [Addr.add] using this
    refine ⟨b, off, rfl, hlt, fun j x hx => ?_⟩
    have := hc j x hx
    simp only [add_plain] at this
    exact this
end
end Go.Proofs.YtlnmmklpccppmaaGreatDoor

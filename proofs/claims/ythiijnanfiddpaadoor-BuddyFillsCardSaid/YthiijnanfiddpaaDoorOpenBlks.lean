/-
  A slice of blocks that came in, as a row's frame opens it, reads as blocks. A plain lemma.
-/
import Derived.Test.YthiijnanfiddpaaDoorBudLawA
import Derived.Deep.Slices
import Derived.Lib.SmallJoins
import Derived.ChangeSame
namespace Go.Proofs.YthiijnanfiddpaaDoor
open Go.ChangeShapes Go.WideShapes Go.Deep Go.Joins Go.RowKit

/-- A slice that came in reads as some blocks. -/
def IsBlks (w : World) (A : Option Addr) (n : Nat) : Prop := ∃ l, RdS w A n l
theorem wf_i64 {a : Int} (h : (Lit.int .i64 a).wf = true) : -9223372036854775808 ≤ a ∧ a ≤ 9223372036854775807 := by
  simpa [Lit.wf, IntKind.min, IntKind.max, IntKind.signed, IntKind.bits] using h

theorem blks_open {H : Type} {enc : TypeId × Value → H} {w : World} {A : Option Addr} {len cap fuel : Nat} {x : DataW H × List MemPlace}
    (h : DataW.trod enc Tryd.prog w 0 (fun _ => true) true fuel 22 [.slice A len cap] = some x) : IsBlks w A len := by
  have h2 : Tryd.prog.cellsOf 32 = 2 := by kernel_rfl
  have hI : Tryd.prog.cellsOf 3 = 1 := by kernel_rfl
  rcases open_slice Tryd.underlying22 h with ⟨hcs, _⟩ | ⟨a, len', cap', m, n, D, Pl, hcs, _, hl, _, hm, _, hi⟩
  · simp at hcs
    obtain ⟨rfl, rfl, rfl⟩ := hcs
    exact ⟨[], RdS.nil⟩
  · simp at hcs
    obtain ⟨rfl, rfl, rfl⟩ := hcs
    simp only [if_true] at hm
    subst hm
    have key : ∀ i, i < m → ∃ p q : Int, w.cell? (a.add (i * 2)) = some (.int .i64 p) ∧ w.cell? ((a.add (i * 2)).add 1) = some (.int .i64 q) := fun i hlt => by
      obtain ⟨cs, hc, ht⟩ := hi i hlt
      rw [h2] at hc
      obtain ⟨_, hcl, hat⟩ := World.cells?_some hc
      match cs, hcl with
      | [c0, c1], _ =>
        obtain ⟨y0, y1, n', _, _, t0, t1⟩ := trod_struct2 Tryd.underlying32 ht
        simp only [hI, List.drop_zero, List.drop_succ_cons, List.take_succ_cons, List.take_zero] at t0 t1
        obtain ⟨p, e0, _, _⟩ := DataW.trod_int Tryd.underlying3 t0
        obtain ⟨q, e1, _, _⟩ := DataW.trod_int Tryd.underlying3 t1
        have z0 := hat 0 (by omega)
        have z1 := hat 1 (by omega)
        simp at e0 e1 z0 z1
        subst e0
        subst e1
        exact ⟨p, q, by simpa [Addr.add] using z0, z1⟩
    have keyF : ∀ i, ∃ b : Blk, i < m → w.cell? (a.add (i * 2)) = some (.int .i64 b.1) ∧ w.cell? ((a.add (i * 2)).add 1) = some (.int .i64 b.2) := fun i => by
      by_cases hlt : i < m
      · obtain ⟨p, q, h1, h2⟩ := key i hlt
        exact ⟨(p, q), fun _ => ⟨h1, h2⟩⟩
      · exact ⟨(0, 0), fun h => absurd h hlt⟩
    refine ⟨(List.range len).map fun i => Classical.choose (keyF i), by simp, fun h0 => ?_⟩
    obtain ⟨b, off, spot⟩ := a
    obtain ⟨k, _, hk, _⟩ := key 0 (by omega)
    have hspot : spot = none := by simpa [Addr.add] using World.cell?_spot hk
    subst hspot
    have hlt : b < w.heap.size := by
      have := World.block_lt_of_cell? w _ hk
      simpa [Addr.add] using this
    refine ⟨b, off, rfl, hlt, fun j x hx => ?_⟩
    have hj : j < len := by
      rcases Nat.lt_or_ge j len with h | h
      · exact h
      · rw [List.getElem?_eq_none (by simp; omega)] at hx; cases hx
    simp only [List.getElem?_map, List.getElem?_range hj, Option.map_some, Option.some.injEq] at hx
    have hc := Classical.choose_spec (keyF j) (by omega)
    rw [hx] at hc
    simp only [add_plain] at hc
    exact hc
end Go.Proofs.YthiijnanfiddpaaDoor

/-
  A slice of calls that came in, as a row's frame opens it, reads as calls. A plain lemma.
-/
import Derived.Test.YtjfcgjmiianmkaaDoorBitsLawF
import Derived.Deep.Slices
import Derived.Lib.SmallJoins
import Derived.ChangeSame
namespace Go.Proofs.YtjfcgjmiianmkaaDoor
open Go.ChangeShapes Go.WideShapes Go.Deep Go.Joins Go.RowKit

theorem wf_i64 {a : Int} (h : (Lit.int .i64 a).wf = true) : -9223372036854775808 ≤ a ∧ a ≤ 9223372036854775807 := by
  simpa [Lit.wf, IntKind.min, IntKind.max, IntKind.signed, IntKind.bits] using h

theorem ops_open {H : Type} {enc : TypeId × Value → H} {w : World} {A : Option Addr} {len cap fuel : Nat} {x : DataW H × List MemPlace}
    (h : DataW.trod enc Tryd.prog w 0 (fun _ => true) true fuel 22 [.slice A len cap] = some x) : Ops w A len := by
  have h4 : Tryd.prog.cellsOf 31 = 4 := by kernel_rfl
  have hI : Tryd.prog.cellsOf 3 = 1 := by kernel_rfl
  have hB : Tryd.prog.cellsOf 4 = 1 := by kernel_rfl
  rcases open_slice Tryd.underlying22 h with ⟨hcs, _⟩ | ⟨a, len', cap', m, n, D, Pl, hcs, _, hl, _, hm, _, hi⟩
  · simp at hcs
    obtain ⟨rfl, rfl, rfl⟩ := hcs
    intro h0
    omega
  · simp at hcs
    obtain ⟨rfl, rfl, rfl⟩ := hcs
    simp only [if_true] at hm
    subst hm
    have key : ∀ i, i < m → ∃ (k p q : Int) (o : Bool), w.cell? (a.add (i * 4)) = some (.int .i64 k) ∧ w.cell? ((a.add (i * 4)).add 1) = some (.int .i64 p) ∧ w.cell? ((a.add (i * 4)).add 2) = some (.int .i64 q) ∧ w.cell? ((a.add (i * 4)).add 3) = some (.bool o) ∧
        p ≤ 9223372036854775807 ∧ q ≤ 9223372036854775807 := fun i hlt => by
      obtain ⟨cs, hc, ht⟩ := hi i hlt
      rw [h4] at hc
      obtain ⟨_, hcl, hat⟩ := World.cells?_some hc
      match cs, hcl with
      | [c0, c1, c2, c3], _ =>
        obtain ⟨y0, y1, y2, y3, n', _, _, t0, t1, t2, t3⟩ := trod_struct4 Tryd.underlying31 ht
        simp only [hI, hB, List.drop_zero, List.drop_succ_cons, List.take_succ_cons, List.take_zero] at t0 t1 t2 t3
        obtain ⟨k, e0, _, _⟩ := DataW.trod_int Tryd.underlying3 t0
        obtain ⟨p, e1, _, wp⟩ := DataW.trod_int Tryd.underlying3 t1
        obtain ⟨q, e2, _, wq⟩ := DataW.trod_int Tryd.underlying3 t2
        obtain ⟨o, e3, _⟩ := DataW.trod_bool Tryd.underlying4 t3
        have z0 := hat 0 (by omega)
        have z1 := hat 1 (by omega)
        have z2 := hat 2 (by omega)
        have z3 := hat 3 (by omega)
        simp at e0 e1 e2 e3 z0 z1 z2 z3
        subst e0
        subst e1
        subst e2
        subst e3
        refine ⟨k, p, q, o, ?_, z1, z2, z3, (wf_i64 wp).2, (wf_i64 wq).2⟩
        simpa [Addr.add] using z0
    intro h0
    obtain ⟨b, off, spot⟩ := a
    obtain ⟨k, _, _, _, hk, _⟩ := key 0 (by omega)
    have hspot : spot = none := by simpa [Addr.add] using World.cell?_spot hk
    subst hspot
    have hlt : b < w.heap.size := by
      have := World.block_lt_of_cell? w _ hk
      simpa [Addr.add] using this
    refine ⟨b, off, rfl, hlt, fun i hi2 => ?_⟩
    obtain ⟨k, p, q, o, z0, z1, z2, z3, z4⟩ := key i (by omega)
    simp only [add_plain] at z0 z1 z2 z3
    exact ⟨k, p, q, o, z0, z1, z2, z3, z4⟩
end Go.Proofs.YtjfcgjmiianmkaaDoor

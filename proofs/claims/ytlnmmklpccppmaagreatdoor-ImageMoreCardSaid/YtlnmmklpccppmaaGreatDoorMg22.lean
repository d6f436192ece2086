/-
  A heap that came in, as a row's frame opens it, reads as a heap. Plain lemmas.
-/
import Derived.Test.YtlnmmklpccppmaaGreatDoorMg14
import Derived.Deep.Slices
import Derived.Lib.SmallJoins
import Derived.OpenShut
import Derived.ChangeSame
namespace Go.Proofs.YtlnmmklpccppmaaGreatDoor
open Go.ChangeShapes Go.WideShapes Go.Deep Go.Joins Go.RowKit

theorem wf_i64 {a : Int} (h : (Lit.int .i64 a).wf = true) : -9223372036854775808 ≤ a ∧ a ≤ 9223372036854775807 := by
  simpa [Lit.wf, IntKind.min, IntKind.max, IntKind.signed, IntKind.bits] using h
theorem list4 {α : Type} {l : List α} (h : l.length = 4) : ∃ a b c d, l = [a, b, c, d] := by
  match l, h with
  | [a, b, c, d], _ => exact ⟨a, b, c, d, rfl⟩
theorem list5 {α : Type} {l : List α} (h : l.length = 5) : ∃ a b c d e, l = [a, b, c, d, e] := by
  match l, h with
  | [a, b, c, d, e], _ => exact ⟨a, b, c, d, e, rfl⟩
theorem list8 {α : Type} {l : List α} (h : l.length = 8) : ∃ a b c d e f g i, l = [a, b, c, d, e, f, g, i] := by
  match l, h with
  | [a, b, c, d, e, f, g, i], _ => exact ⟨a, b, c, d, e, f, g, i, rfl⟩
section
variable {H : Type} {enc : TypeId × Value → H} {w : World}
theorem trod_fields4 {P : Program} {b0 : Nat} {sp : Nat → Bool} {hd : Bool} {t : TypeId} {f0 f1 f2 f3 : Field} {cs : List Value} {fuel : Nat} {x : DataW H × List MemPlace} (ht : P.underlying t = some (.struct #[f0, f1, f2, f3])) (h : DataW.trod enc P w b0 sp hd fuel t cs = some x) :
    ∃ n y0 y1 y2 y3, cs.length = P.cellsOf t ∧ DataW.trod enc P w b0 sp hd n f0.type ((cs.drop f0.offset).take (P.cellsOf f0.type)) = some y0 ∧ DataW.trod enc P w b0 sp hd n f1.type ((cs.drop f1.offset).take (P.cellsOf f1.type)) = some y1 ∧ DataW.trod enc P w b0 sp hd n f2.type ((cs.drop f2.offset).take (P.cellsOf f2.type)) = some y2 ∧ DataW.trod enc P w b0 sp hd n f3.type ((cs.drop f3.offset).take (P.cellsOf f3.type)) = some y3 := by
  obtain ⟨xs, n, _, _, hlen, hxl, hg⟩ := DataW.trod_struct ht h
  have hxl2 : xs.length = 4 := hxl
  obtain ⟨y0, y1, y2, y3, rfl⟩ := list4 hxl2
  exact ⟨n, y0, y1, y2, y3, hlen, hg 0 f0 rfl, hg 1 f1 rfl, hg 2 f2 rfl, hg 3 f3 rfl⟩
theorem trod_fields5 {P : Program} {b0 : Nat} {sp : Nat → Bool} {hd : Bool} {t : TypeId} {f0 f1 f2 f3 f4 : Field} {cs : List Value} {fuel : Nat} {x : DataW H × List MemPlace} (ht : P.underlying t = some (.struct #[f0, f1, f2, f3, f4])) (h : DataW.trod enc P w b0 sp hd fuel t cs = some x) :
    ∃ n y0 y1 y2 y3 y4, cs.length = P.cellsOf t ∧ DataW.trod enc P w b0 sp hd n f0.type ((cs.drop f0.offset).take (P.cellsOf f0.type)) = some y0 ∧ DataW.trod enc P w b0 sp hd n f1.type ((cs.drop f1.offset).take (P.cellsOf f1.type)) = some y1 ∧ DataW.trod enc P w b0 sp hd n f2.type ((cs.drop f2.offset).take (P.cellsOf f2.type)) = some y2 ∧ DataW.trod enc P w b0 sp hd n f3.type ((cs.drop f3.offset).take (P.cellsOf f3.type)) = some y3 ∧ DataW.trod enc P w b0 sp hd n f4.type ((cs.drop f4.offset).take (P.cellsOf f4.type)) = some y4 := by
  obtain ⟨xs, n, _, _, hlen, hxl, hg⟩ := DataW.trod_struct ht h
  have hxl2 : xs.length = 5 := hxl
  obtain ⟨y0, y1, y2, y3, y4, rfl⟩ := list5 hxl2
  exact ⟨n, y0, y1, y2, y3, y4, hlen, hg 0 f0 rfl, hg 1 f1 rfl, hg 2 f2 rfl, hg 3 f3 rfl, hg 4 f4 rfl⟩
theorem hblks_open {A : Option Addr} {len cap fuel : Nat} {x : DataW H × List MemPlace}
    (h : DataW.trod enc Tryz.prog w 0 (fun _ => true) true fuel 24 [.slice A len cap] = some x) : ∃ l, RdS w A len l := by
  have h2 : Tryz.prog.cellsOf 65 = 2 := by kernel_rfl
  have hI : Tryz.prog.cellsOf 3 = 1 := by kernel_rfl
  rcases open_slice Tryz.underlying24 h with ⟨hcs, _⟩ | ⟨a, len', cap', m, n, D, Pl, hcs, _, hl, _, hm, _, hi⟩
  · simp at hcs
    obtain ⟨rfl, rfl, rfl⟩ := hcs
    exact ⟨[], RdS.nil⟩
  · simp at hcs
    obtain ⟨rfl, rfl, rfl⟩ := hcs
    simp only [if_true] at hm
    subst hm
    have key : ∀ i, i < m → ∃ b : Blk, w.cell? (a.add (i * 2)) = some (.int .i64 b.1) ∧ w.cell? ((a.add (i * 2)).add 1) = some (.int .i64 b.2) := fun i hlt => by
      obtain ⟨cs, hc, ht⟩ := hi i hlt
      rw [h2] at hc
      obtain ⟨_, hcl, hat⟩ := World.cells?_some hc
      match cs, hcl with
      | [c0, c1], _ =>
        obtain ⟨y0, y1, n', _, _, t0, t1⟩ := trod_struct2 Tryz.underlying65 ht
        simp only [hI, List.drop_zero, List.drop_succ_cons, List.take_succ_cons, List.take_zero] at t0 t1
        obtain ⟨p, e0, _, _⟩ := DataW.trod_int Tryz.underlying3 t0
        obtain ⟨q, e1, _, _⟩ := DataW.trod_int Tryz.underlying3 t1
        have z0 := hat 0 (by omega)
        have z1 := hat 1 (by omega)
        simp at e0 e1 z0 z1
        subst e0
        subst e1
        exact ⟨(p, q), by simpa [Addr.add] using z0, z1⟩
    have key2 : ∀ k, k ≤ m → ∃ l : List Blk, l.length = k ∧ ∀ j x, l[j]? = some x → w.cell? (a.add (j * 2)) = some (.int .i64 x.1) ∧ w.cell? ((a.add (j * 2)).add 1) = some (.int .i64 x.2) := by
      intro k
      induction k with
      | zero => intro _; exact ⟨[], rfl, fun j x hj => by simp at hj⟩
      | succ k ih =>
        intro hk
        obtain ⟨l, h1, h2⟩ := ih (by omega)
        obtain ⟨b, hb⟩ := key k (by omega)
        refine ⟨l ++ [b], by simp [h1], fun j x hj => ?_⟩
        by_cases hjk : j < k
        · rw [List.getElem?_append_left (by omega)] at hj
          exact h2 j x hj
        · have hlt := (List.getElem?_eq_some_iff.1 hj).1
          simp [h1] at hlt
          obtain rfl : j = k := by omega
          rw [List.getElem?_append_right (by omega), h1, Nat.sub_self] at hj
          simp at hj
          subst hj
          exact hb
    obtain ⟨l, hl', hc⟩ := key2 len hl
    refine ⟨l, hl', fun h0 => ?_⟩
    obtain ⟨b, off, spot⟩ := a
    obtain ⟨b0, hk, _⟩ := key 0 (by omega)
    have hspot : spot = none := by simpa [Addr.add] using World.cell?_spot hk
    subst hspot
    have hlt : b < w.heap.size := by
      have := World.block_lt_of_cell? w _ hk
      simpa [Addr.add] using this
    refine ⟨b, off, rfl, hlt, fun j x hx => ?_⟩
    have := hc j x hx
    simp only [add_plain] at this
    exact this
theorem hints_open {A : Option Addr} {len cap fuel : Nat} {x : DataW H × List MemPlace}
    (h : DataW.trod enc Tryz.prog w 0 (fun _ => true) true fuel 66 [.slice A len cap] = some x) : ∃ l, RdI w A len l := by
  rcases open_ints Tryz.underlying66 Tryz.underlying3 (by kernel_rfl) h with ⟨hcs, _⟩ | ⟨a, l, c, zs, hcs, _, hl, hm, hz, _, hcell, hwz⟩
  · simp at hcs
    obtain ⟨rfl, rfl, rfl⟩ := hcs
    exact ⟨[], RdI.nil⟩
  · simp at hcs
    obtain ⟨rfl, rfl, rfl⟩ := hcs
    have hz' : zs.length = cap := by simpa using hz
    refine ⟨zs.take len, by rw [ivs_length, List.length_take]; omega, fun h0 => ?_⟩
    obtain ⟨b, off, spot⟩ := a
    have hk := hcell 0 (by omega)
    have hspot : spot = none := by simpa [Addr.add] using World.cell?_spot hk
    subst hspot
    have hlt : b < w.heap.size := by
      have := World.block_lt_of_cell? w _ hk
      simpa [Addr.add] using this
    refine ⟨b, off, rfl, hlt, fun j u hu => ?_⟩
    have hjl := (List.getElem?_eq_some_iff.1 hu).1
    rw [ivs_length, List.length_take] at hjl
    have h1 : (zs.take len)[j]? = some (zs.getD j 0) := by
      rw [List.getElem?_take, if_pos (by omega), List.getD_eq_getElem?_getD, List.getElem?_eq_getElem (by omega)]; rfl
    rw [ivs_get h1] at hu
    injection hu with hu
    rw [← hu]
    have := hcell j (by omega)
    rw [add_plain] at this
    exact this
/-- Five cells that came in are an object. -/
theorem hob_open {cs : List Value} {fuel : Nat} {x : DataW H × List MemPlace} (h : DataW.trod enc Tryz.prog w 0 (fun _ => true) true fuel 68 cs = some x) :
    ∃ (y : Ob) (A : Option Addr) (n c : Nat) (B : Option Addr) (m d : Nat), cs = [.int .i64 y.hd, .int .i64 y.bl.1, .int .i64 y.bl.2, .slice A n c, .slice B m d] ∧ RdI w A n y.ws ∧ RdI w B m y.ls := by
  have hI : Tryz.prog.cellsOf 3 = 1 := by kernel_rfl
  have hB : Tryz.prog.cellsOf 65 = 2 := by kernel_rfl
  have hS : Tryz.prog.cellsOf 66 = 1 := by kernel_rfl
  have hO : Tryz.prog.cellsOf 68 = 5 := by kernel_rfl
  obtain ⟨n, y0, y1, y2, y3, hlen, g0, g1, g2, g3⟩ := trod_fields4 Tryz.underlying68 h
  rw [hO] at hlen
  obtain ⟨c0, c1, c2, c3, c4, rfl⟩ := list5 hlen
  simp only [hI, hB, hS, List.drop_zero, List.drop_succ_cons, List.take_succ_cons, List.take_zero] at g0 g1 g2 g3
  obtain ⟨p, e0, _, _⟩ := DataW.trod_int Tryz.underlying3 g0
  obtain ⟨z0, z1, n', _, _, t0, t1⟩ := trod_struct2 Tryz.underlying65 g1
  simp only [hI, List.drop_zero, List.drop_succ_cons, List.take_succ_cons, List.take_zero] at t0 t1
  obtain ⟨q1, e1, _, _⟩ := DataW.trod_int Tryz.underlying3 t0
  obtain ⟨q2, e2, _, _⟩ := DataW.trod_int Tryz.underlying3 t1
  have s3 : ∃ A n c, c3 = .slice A n c := by
    rcases open_slice Tryz.underlying66 g2 with ⟨hcs, _⟩ | ⟨a, len', cap', _, _, _, _, hcs, _⟩
    · simp at hcs; exact ⟨_, _, _, hcs⟩
    · simp at hcs; exact ⟨_, _, _, hcs⟩
  have s4 : ∃ A n c, c4 = .slice A n c := by
    rcases open_slice Tryz.underlying66 g3 with ⟨hcs, _⟩ | ⟨a, len', cap', _, _, _, _, hcs, _⟩
    · simp at hcs; exact ⟨_, _, _, hcs⟩
    · simp at hcs; exact ⟨_, _, _, hcs⟩
  obtain ⟨A, k, c, rfl⟩ := s3
  obtain ⟨B, m, d, rfl⟩ := s4
  obtain ⟨l3, r3⟩ := hints_open g2
  obtain ⟨l4, r4⟩ := hints_open g3
  simp at e0 e1 e2
  subst e0 e1 e2
  exact ⟨⟨p, (q1, q2), l3, l4⟩, A, k, c, B, m, d, rfl, r3, r4⟩
theorem hobs_open {A : Option Addr} {len cap fuel : Nat} {x : DataW H × List MemPlace}
    (h : DataW.trod enc Tryz.prog w 0 (fun _ => true) true fuel 22 [.slice A len cap] = some x) : ∃ l, RdO w A len l := by
  have h5 : Tryz.prog.cellsOf 68 = 5 := by kernel_rfl
  rcases open_slice Tryz.underlying22 h with ⟨hcs, _⟩ | ⟨a, len', cap', m, n, D, Pl, hcs, _, hl, _, hm, _, hi⟩
  · simp at hcs
    obtain ⟨rfl, rfl, rfl⟩ := hcs
    exact ⟨[], RdO.nil⟩
  · simp at hcs
    obtain ⟨rfl, rfl, rfl⟩ := hcs
    simp only [if_true] at hm
    subst hm
    by_cases h0 : m = 0
    · subst h0
      obtain rfl : len = 0 := by omega
      exact ⟨[], rfl, fun q => by omega⟩
    obtain ⟨b, off, spot⟩ := a
    have hcell : ∀ i, i < m → ∃ (y : Ob) (A : Option Addr) (n c : Nat) (B : Option Addr) (m d : Nat), RdI w A n y.ws ∧ RdI w B m y.ls ∧ ∀ j v, [Value.int .i64 y.hd, .int .i64 y.bl.1, .int .i64 y.bl.2, .slice A n c, .slice B m d][j]? = some v → w.cell? (((⟨b, off, spot⟩ : Addr).add (i * 5)).add j) = some v := fun i hlt => by
      obtain ⟨cs, hc, ht⟩ := hi i hlt
      rw [h5] at hc
      obtain ⟨_, hcl, hat⟩ := World.cells?_some hc
      obtain ⟨y, A, n, c, B, m, d, rfl, r1, r2⟩ := hob_open ht
      refine ⟨y, A, n, c, B, m, d, r1, r2, fun j v hj => ?_⟩
      have hj5 : j < 5 := (List.getElem?_eq_some_iff.1 hj).1
      rw [hat j (by simpa using hj5)]
      exact hj
    obtain ⟨y0, A0, n0, c0, B0, m0, d0, _, _, hk0⟩ := hcell 0 (by omega)
    have hk := hk0 0 _ rfl
    have hspot : spot = none := by simpa [Addr.add] using World.cell?_spot hk
    subst hspot
    have hlt : b < w.heap.size := by
      have := World.block_lt_of_cell? w _ hk
      simpa [Addr.add] using this
    have key : ∀ i, i < m → ∃ y, ObAt w b (off + i * 5) y := fun i him => by
      obtain ⟨y, A, n, c, B, m, d, r1, r2, hc⟩ := hcell i him
      simp only [add_plain] at hc
      exact ⟨y, A, n, c, B, m, d, hc 0 _ rfl, hc 1 _ rfl, hc 2 _ rfl, hc 3 _ rfl, hc 4 _ rfl, r1, r2⟩
    have key2 : ∀ k, k ≤ m → ∃ l : List Ob, l.length = k ∧ ∀ j x, l[j]? = some x → ObAt w b (off + j * 5) x := by
      intro k
      induction k with
      | zero => intro _; exact ⟨[], rfl, fun j x hj => by simp at hj⟩
      | succ k ih =>
        intro hk
        obtain ⟨l, h1, h2⟩ := ih (by omega)
        obtain ⟨y, hy⟩ := key k (by omega)
        refine ⟨l ++ [y], by simp [h1], fun j x hj => ?_⟩
        by_cases hjk : j < k
        · rw [List.getElem?_append_left (by omega)] at hj
          exact h2 j x hj
        · have hlt := (List.getElem?_eq_some_iff.1 hj).1
          simp [h1] at hlt
          obtain rfl : j = k := by omega
          rw [List.getElem?_append_right (by omega), h1, Nat.sub_self] at hj
          simp at hj
          subst hj
          exact hy
    obtain ⟨l, hl', hc⟩ := key2 len hl
    exact ⟨l, hl', fun _ => ⟨b, off, rfl, hlt, hc⟩⟩
/-- A heap that came in reads as one. -/
theorem heap_open {cs : List Value} {fuel : Nat} {x : DataW H × List MemPlace} (h : DataW.trod enc Tryz.prog w 0 (fun _ => true) true fuel 26 cs = some x) :
    ∃ (G : Hp) (s : HSl), cs = hcs G s ∧ RdH w s G := by
  have hI : Tryz.prog.cellsOf 3 = 1 := by kernel_rfl
  have hT : Tryz.prog.cellsOf 23 = 4 := by kernel_rfl
  have hS : Tryz.prog.cellsOf 22 = 1 := by kernel_rfl
  have hF : Tryz.prog.cellsOf 24 = 1 := by kernel_rfl
  have hO : Tryz.prog.cellsOf 26 = 8 := by kernel_rfl
  obtain ⟨n, y0, y1, y2, y3, y4, hlen, g0, g1, g2, g3, g4⟩ := trod_fields5 Tryz.underlying26 h
  rw [hO] at hlen
  obtain ⟨c0, c1, c2, c3, c4, c5, c6, c7, rfl⟩ := list8 hlen
  simp only [hI, hT, hS, hF, List.drop_zero, List.drop_succ_cons, List.take_succ_cons, List.take_zero] at g0 g1 g2 g3 g4
  obtain ⟨od, e0, _, _⟩ := DataW.trod_int Tryz.underlying3 g0
  obtain ⟨nx, e2, _, wn⟩ := DataW.trod_int Tryz.underlying3 g2
  obtain ⟨ys, n', _, _, _, hyl, hat⟩ := DataW.trod_array Tryz.underlying23 g3
  obtain ⟨z0, z1, z2, z3, rfl⟩ := list4 hyl
  have t0 := hat 0 (by omega)
  have t1 := hat 1 (by omega)
  have t2 := hat 2 (by omega)
  have t3 := hat 3 (by omega)
  simp only [hI, Nat.mul_one, List.drop_zero, List.drop_succ_cons, List.take_succ_cons, List.take_zero, List.getElem?_cons_zero, List.getElem?_cons_succ] at t0 t1 t2 t3
  obtain ⟨a0, f0, _, _⟩ := DataW.trod_int Tryz.underlying3 t0
  obtain ⟨a1, f1, _, _⟩ := DataW.trod_int Tryz.underlying3 t1
  obtain ⟨a2, f2, _, _⟩ := DataW.trod_int Tryz.underlying3 t2
  obtain ⟨a3, f3, _, _⟩ := DataW.trod_int Tryz.underlying3 t3
  have s1 : ∃ A n c, c1 = .slice A n c := by
    rcases open_slice Tryz.underlying22 g1 with ⟨hcs, _⟩ | ⟨a, len', cap', _, _, _, _, hcs, _⟩
    · simp at hcs; exact ⟨_, _, _, hcs⟩
    · simp at hcs; exact ⟨_, _, _, hcs⟩
  have s7 : ∃ A n c, c7 = .slice A n c := by
    rcases open_slice Tryz.underlying24 g4 with ⟨hcs, _⟩ | ⟨a, len', cap', _, _, _, _, hcs, _⟩
    · simp at hcs; exact ⟨_, _, _, hcs⟩
    · simp at hcs; exact ⟨_, _, _, hcs⟩
  obtain ⟨A, k, c, rfl⟩ := s1
  obtain ⟨F, m, d, rfl⟩ := s7
  obtain ⟨obs, r1⟩ := hobs_open g1
  obtain ⟨fr, r7⟩ := hblks_open g4
  simp at e0 e2 f0 f1 f2 f3
  subst e0 e2 f0 f1 f2 f3
  exact ⟨⟨od, obs, nx, [a0, a1, a2, a3], fr⟩, ⟨A, k, c, F, m, d⟩, rfl, ⟨r1, r7, rfl, (wf_i64 wn).2⟩⟩
end
/-- The value of a heap that came in. -/
def IsHp (w : World) (v : Value) (G : Hp) (s : HSl) : Prop := v = hval G s ∧ RdH w s G
end Go.Proofs.YtlnmmklpccppmaaGreatDoor

/-
  A heap that came in, with the bounds of its words.
-/
import Derived.Test.YtlnmmklpccppmaaGreatDoorTg44
import Derived.Test.YtlnmmklpccppmaaGreatDoorTg22
namespace Go.Proofs.YtlnmmklpccppmaaGreatDoor
open Go.RowKit Go.ChangeShapes Go.WideShapes Go.Deep
theorem int_of {n : Int} (h : (Lit.int .i64 n).wf = true) : IsInt n := by
  have := wf_i64 h
  unfold IsInt
  omega
section
variable {H : Type} {enc : TypeId × Value → H} {w : World}
theorem hintsI_open {A : Option Addr} {len cap fuel : Nat} {x : DataW H × List MemPlace}
    (h : DataW.trod enc Tryz.prog w 0 (fun _ => true) true fuel 66 [.slice A len cap] = some x) : ∃ l, RdI w A len l ∧ ∀ n ∈ l, IsInt n := by
  rcases open_ints Tryz.underlying66 Tryz.underlying3 (by kernel_rfl) h with ⟨hcs, _⟩ | ⟨a, l, c, zs, hcs, _, hl, hm, hz, _, hcell, hwz⟩
  · simp at hcs
    obtain ⟨rfl, rfl, rfl⟩ := hcs
    exact ⟨[], RdI.nil, fun n hn => by cases hn⟩
  · simp at hcs
    obtain ⟨rfl, rfl, rfl⟩ := hcs
    have hz' : zs.length = cap := by simpa using hz
    refine ⟨zs.take len, ⟨by rw [ivs_length, List.length_take]; omega, fun h0 => ?_⟩, fun n hn => int_of (hwz n (List.mem_of_mem_take hn))⟩
    obtain ⟨b, off, spot⟩ := a
    have hk := hcell 0 (by omega)
    have hspot : spot = none := by simpa [Addr.add] using World.cell?_spot hk
    subst hspot
    have hlt : b < w.heap.size := by
      have := World.block_lt_of_cell? w _ hk
      simpa [Addr.add] using this
    refine ⟨b, off, rfl, hlt, fun j u hu => ?_⟩
    have hjl := (List.getElem?_eq_some_iff.1 hu).1
    rw [ivs_length, List.length_take] at hjl
    have h1 : (zs.take len)[j]? = some (zs.getD j 0) := by
      rw [List.getElem?_take, if_pos (by omega), List.getD_eq_getElem?_getD, List.getElem?_eq_getElem (by omega)]; rfl
    rw [ivs_get h1] at hu
    injection hu with hu
    rw [← hu]
    have := hcell j (by omega)
    rw [add_plain] at this
    exact this
/-- Five cells that came in are an object. -/
theorem hobI_open {cs : List Value} {fuel : Nat} {x : DataW H × List MemPlace} (h : DataW.trod enc Tryz.prog w 0 (fun _ => true) true fuel 68 cs = some x) :
    ∃ (y : Ob) (A : Option Addr) (n c : Nat) (B : Option Addr) (m d : Nat), cs = [.int .i64 y.hd, .int .i64 y.bl.1, .int .i64 y.bl.2, .slice A n c, .slice B m d] ∧ RdI w A n y.ws ∧ RdI w B m y.ls ∧ ∀ n ∈ y.ws, IsInt n := by
  have hI : Tryz.prog.cellsOf 3 = 1 := by kernel_rfl
  have hB : Tryz.prog.cellsOf 65 = 2 := by kernel_rfl
  have hS : Tryz.prog.cellsOf 66 = 1 := by kernel_rfl
  have hO : Tryz.prog.cellsOf 68 = 5 := by kernel_rfl
  obtain ⟨n, y0, y1, y2, y3, hlen, g0, g1, g2, g3⟩ := trod_fields4 Tryz.underlying68 h
  rw [hO] at hlen
  obtain ⟨c0, c1, c2, c3, c4, rfl⟩ := list5 hlen
  simp only [hI, hB, hS, List.drop_zero, List.drop_succ_cons, List.take_succ_cons, List.take_zero] at g0 g1 g2 g3
  obtain ⟨p, e0, _, _⟩ := DataW.trod_int Tryz.underlying3 g0
  obtain ⟨z0, z1, n', _, _, t0, t1⟩ := trod_struct2 Tryz.underlying65 g1
  simp only [hI, List.drop_zero, List.drop_succ_cons, List.take_succ_cons, List.take_zero] at t0 t1
  obtain ⟨q1, e1, _, _⟩ := DataW.trod_int Tryz.underlying3 t0
  obtain ⟨q2, e2, _, _⟩ := DataW.trod_int Tryz.underlying3 t1
  have s3 : ∃ A n c, c3 = .slice A n c := by
    rcases open_slice Tryz.underlying66 g2 with ⟨hcs, _⟩ | ⟨a, len', cap', _, _, _, _, hcs, _⟩
    · simp at hcs; exact ⟨_, _, _, hcs⟩
    · simp at hcs; exact ⟨_, _, _, hcs⟩
  have s4 : ∃ A n c, c4 = .slice A n c := by
    rcases open_slice Tryz.underlying66 g3 with ⟨hcs, _⟩ | ⟨a, len', cap', _, _, _, _, hcs, _⟩
    · simp at hcs; exact ⟨_, _, _, hcs⟩
    · simp at hcs; exact ⟨_, _, _, hcs⟩
  obtain ⟨A, k, c, rfl⟩ := s3
  obtain ⟨B, m, d, rfl⟩ := s4
  obtain ⟨l3, r3, i3⟩ := hintsI_open g2
  obtain ⟨l4, r4, _⟩ := hintsI_open g3
  simp at e0 e1 e2
  subst e0 e1 e2
  exact ⟨⟨p, (q1, q2), l3, l4⟩, A, k, c, B, m, d, rfl, r3, r4, i3⟩
theorem hobsI_open {A : Option Addr} {len cap fuel : Nat} {x : DataW H × List MemPlace}
    (h : DataW.trod enc Tryz.prog w 0 (fun _ => true) true fuel 22 [.slice A len cap] = some x) : ∃ l, RdO w A len l ∧ ∀ x ∈ l, ∀ n ∈ x.ws, IsInt n := by
  have h5 : Tryz.prog.cellsOf 68 = 5 := by kernel_rfl
  rcases open_slice Tryz.underlying22 h with ⟨hcs, _⟩ | ⟨a, len', cap', m, n, D, Pl, hcs, _, hl, _, hm, _, hi⟩
  · simp at hcs
    obtain ⟨rfl, rfl, rfl⟩ := hcs
    exact ⟨[], RdO.nil, fun x hx => by cases hx⟩
  · simp at hcs
    obtain ⟨rfl, rfl, rfl⟩ := hcs
    simp only [if_true] at hm
    subst hm
    by_cases h0 : m = 0
    · subst h0
      obtain rfl : len = 0 := by omega
      exact ⟨[], ⟨rfl, fun q => by omega⟩, fun x hx => by cases hx⟩
    obtain ⟨b, off, spot⟩ := a
    have hcell : ∀ i, i < m → ∃ (y : Ob) (A : Option Addr) (n c : Nat) (B : Option Addr) (m d : Nat), RdI w A n y.ws ∧ RdI w B m y.ls ∧ (∀ n ∈ y.ws, IsInt n) ∧ ∀ j v, [Value.int .i64 y.hd, .int .i64 y.bl.1, .int .i64 y.bl.2, .slice A n c, .slice B m d][j]? = some v → w.cell? (((⟨b, off, spot⟩ : Addr).add (i * 5)).add j) = some v := fun i hlt => by
      obtain ⟨cs, hc, ht⟩ := hi i hlt
      rw [h5] at hc
      obtain ⟨_, hcl, hat⟩ := World.cells?_some hc
      obtain ⟨y, A, n, c, B, m, d, rfl, r1, r2, ri⟩ := hobI_open ht
      refine ⟨y, A, n, c, B, m, d, r1, r2, ri, fun j v hj => ?_⟩
      have hj5 : j < 5 := (List.getElem?_eq_some_iff.1 hj).1
      rw [hat j (by simpa using hj5)]
      exact hj
    obtain ⟨y0, A0, n0, c0, B0, m0, d0, _, _, _, hk0⟩ := hcell 0 (by omega)
    have hk := hk0 0 _ rfl
    have hspot : spot = none := by simpa [Addr.add] using World.cell?_spot hk
    subst hspot
    have hlt : b < w.heap.size := by
      have := World.block_lt_of_cell? w _ hk
      simpa [Addr.add] using this
    have key : ∀ i, i < m → ∃ y, ObAt w b (off + i * 5) y ∧ ∀ n ∈ y.ws, IsInt n := fun i him => by
      obtain ⟨y, A, n, c, B, m, d, r1, r2, ri, hc⟩ := hcell i him
      simp only [add_plain] at hc
      exact ⟨y, ⟨A, n, c, B, m, d, hc 0 _ rfl, hc 1 _ rfl, hc 2 _ rfl, hc 3 _ rfl, hc 4 _ rfl, r1, r2⟩, ri⟩
    have key2 : ∀ k, k ≤ m → ∃ l : List Ob, l.length = k ∧ ∀ j x, l[j]? = some x → ObAt w b (off + j * 5) x ∧ ∀ n ∈ x.ws, IsInt n := by
      intro k
      induction k with
      | zero => intro _; exact ⟨[], rfl, fun j x hj => by simp at hj⟩
      | succ k ih =>
        intro hk
        obtain ⟨l, h1, h2⟩ := ih (by omega)
        obtain ⟨y, hy⟩ := key k (by omega)
        refine ⟨l ++ [y], by simp [h1], fun j x hj => ?_⟩
        by_cases hjk : j < k
        · rw [List.getElem?_append_left (by omega)] at hj
          exact h2 j x hj
        · have hlt := (List.getElem?_eq_some_iff.1 hj).1
          simp [h1] at hlt
          obtain rfl : j = k := by omega
          rw [List.getElem?_append_right (by omega), h1, Nat.sub_self] at hj
          simp at hj
          subst hj
          exact hy
    obtain ⟨l, hl', hc⟩ := key2 len hl
    exact ⟨l, ⟨hl', fun _ => ⟨b, off, rfl, hlt, fun j x hj => (hc j x hj).1⟩⟩, fun x hx => by obtain ⟨j, hj⟩ := List.mem_iff_getElem?.1 hx; exact (hc j x hj).2⟩
/-- A heap that came in reads as one. -/
theorem heapI_open {cs : List Value} {fuel : Nat} {x : DataW H × List MemPlace} (h : DataW.trod enc Tryz.prog w 0 (fun _ => true) true fuel 26 cs = some x) :
    ∃ (G : Hp) (s : HSl), cs = hcs G s ∧ RdH w s G ∧ IntsH G := by
  have hI : Tryz.prog.cellsOf 3 = 1 := by kernel_rfl
  have hT : Tryz.prog.cellsOf 23 = 4 := by kernel_rfl
  have hS : Tryz.prog.cellsOf 22 = 1 := by kernel_rfl
  have hF : Tryz.prog.cellsOf 24 = 1 := by kernel_rfl
  have hO : Tryz.prog.cellsOf 26 = 8 := by kernel_rfl
  obtain ⟨n, y0, y1, y2, y3, y4, hlen, g0, g1, g2, g3, g4⟩ := trod_fields5 Tryz.underlying26 h
  rw [hO] at hlen
  obtain ⟨c0, c1, c2, c3, c4, c5, c6, c7, rfl⟩ := list8 hlen
  simp only [hI, hT, hS, hF, List.drop_zero, List.drop_succ_cons, List.take_succ_cons, List.take_zero] at g0 g1 g2 g3 g4
  obtain ⟨od, e0, _, _⟩ := DataW.trod_int Tryz.underlying3 g0
  obtain ⟨nx, e2, _, wn⟩ := DataW.trod_int Tryz.underlying3 g2
  obtain ⟨ys, n', _, _, _, hyl, hat⟩ := DataW.trod_array Tryz.underlying23 g3
  obtain ⟨z0, z1, z2, z3, rfl⟩ := list4 hyl
  have t0 := hat 0 (by omega)
  have t1 := hat 1 (by omega)
  have t2 := hat 2 (by omega)
  have t3 := hat 3 (by omega)
  simp only [hI, Nat.mul_one, List.drop_zero, List.drop_succ_cons, List.take_succ_cons, List.take_zero, List.getElem?_cons_zero, List.getElem?_cons_succ] at t0 t1 t2 t3
  obtain ⟨a0, f0, _, _⟩ := DataW.trod_int Tryz.underlying3 t0
  obtain ⟨a1, f1, _, _⟩ := DataW.trod_int Tryz.underlying3 t1
  obtain ⟨a2, f2, _, _⟩ := DataW.trod_int Tryz.underlying3 t2
  obtain ⟨a3, f3, _, _⟩ := DataW.trod_int Tryz.underlying3 t3
  have s1 : ∃ A n c, c1 = .slice A n c := by
    rcases open_slice Tryz.underlying22 g1 with ⟨hcs, _⟩ | ⟨a, len', cap', _, _, _, _, hcs, _⟩
    · simp at hcs; exact ⟨_, _, _, hcs⟩
    · simp at hcs; exact ⟨_, _, _, hcs⟩
  have s7 : ∃ A n c, c7 = .slice A n c := by
    rcases open_slice Tryz.underlying24 g4 with ⟨hcs, _⟩ | ⟨a, len', cap', _, _, _, _, hcs, _⟩
    · simp at hcs; exact ⟨_, _, _, hcs⟩
    · simp at hcs; exact ⟨_, _, _, hcs⟩
  obtain ⟨A, k, c, rfl⟩ := s1
  obtain ⟨F, m, d, rfl⟩ := s7
  obtain ⟨obs, r1, i1⟩ := hobsI_open g1
  obtain ⟨fr, r7⟩ := hblks_open g4
  simp at e0 e2 f0 f1 f2 f3
  subst e0 e2 f0 f1 f2 f3
  exact ⟨⟨od, obs, nx, [a0, a1, a2, a3], fr⟩, ⟨A, k, c, F, m, d⟩, rfl, ⟨r1, r7, rfl, (wf_i64 wn).2⟩, i1⟩
end
end Go.Proofs.YtlnmmklpccppmaaGreatDoor

/-
  A heap that came in, with the bounds of its words.
  A heap has just these bytes, or is refused; it comes back: the walk of the statement.
-/
import Derived.Test.YtlnmmklpccppmaaGreatDoorMg51
import Derived.Test.YtlnmmklpccppmaaGreatDoorMg22
import Derived.Test.YtlnmmklpccppmaaGreatDoorMg53
import Derived.Test.YtlnmmklpccppmaaGreatDoorMg52
import Derived.Test.YtlnmmklpccppmaaGreatDoorMg15
import Derived.Test.YtlnmmklpccppmaaGreatDoorMg23
namespace Go.Proofs.YtlnmmklpccppmaaGreatDoor
open Go.RowKit Go.ChangeShapes Go.WideShapes Go.Deep

theorem int_of {n : Int} (h : (Lit.int .i64 n).wf = true) : IsInt n := by
  have := wf_i64 h
  unfold IsInt
  omega
section
variable {H : Type} {enc : TypeId × Value → H} {w : World}
theorem hintsI_open {A : Option Addr} {len cap fuel : Nat} {x : DataW H × List MemPlace}
    (h : DataW.trod enc Tryz.prog w 0 (fun _ => true) true fuel 66 [.slice A len cap] = some x) : ∃ l, RdI w A len l ∧ ∀ n ∈ l, IsInt n := by
  rcases open_ints Tryz.underlying66 Tryz.underlying3 (by kernel_rfl) h with ⟨hcs, _⟩ | ⟨a, l, c, zs, hcs, _, hl, hm, hz, _, hcell, hwz⟩
  · simp at hcs
    obtain ⟨rfl, rfl, rfl⟩ := hcs
    exact ⟨[], RdI.nil, fun n hn => by cases hn⟩
  · simp at hcs
    obtain ⟨rfl, rfl, rfl⟩ := hcs
    have hz' : zs.length = cap := by simpa using hz
    refine ⟨zs.take len, ⟨by rw [ivs_length, List.length_take]; omega, fun h0 => ?_⟩, fun n hn => int_of (hwz n (List.mem_of_mem_take hn))⟩
    obtain ⟨b, off, spot⟩ := a
    have hk := hcell 0 (by omega)
    have hspot : spot = none := by simpa [Addr.add] using World.cell?_spot hk
    subst hspot
    have hlt : b < w.heap.size := by
      have := World.block_lt_of_cell? w _ hk
      simpa [Addr.add] using this
    refine ⟨b, off, rfl, hlt, fun j u hu => ?_⟩
    have hjl := (List.getElem?_eq_some_iff.1 hu).1
    rw [ivs_length, List.length_take] at hjl
    have h1 : (zs.take len)[j]? = some (zs.getD j 0) := by
      rw [List.getElem?_take, if_pos (by omega), List.getD_eq_getElem?_getD, List.getElem?_eq_getElem (by omega)]; rfl
    rw [ivs_get h1] at hu
    injection hu with hu
    rw [← hu]
    have := hcell j (by omega)
    rw [add_plain] at this
    exact this
/-- Five cells that came in are an object. -/
theorem hobI_open {cs : List Value} {fuel : Nat} {x : DataW H × List MemPlace} (h : DataW.trod enc Tryz.prog w 0 (fun _ => true) true fuel 68 cs = some x) :
    ∃ (y : Ob) (A : Option Addr) (n c : Nat) (B : Option Addr) (m d : Nat), cs = [.int .i64 y.hd, .int .i64 y.bl.1, .int .i64 y.bl.2, .slice A n c, .slice B m d] ∧ RdI w A n y.ws ∧ RdI w B m y.ls ∧ ∀ n ∈ y.ws, IsInt n := by
  have hI : Tryz.prog.cellsOf 3 = 1 := by kernel_rfl
  have hB : Tryz.prog.cellsOf 65 = 2 := by kernel_rfl
  have hS : Tryz.prog.cellsOf 66 = 1 := by kernel_rfl
  have hO : Tryz.prog.cellsOf 68 = 5 := by kernel_rfl
  obtain ⟨n, y0, y1, y2, y3, hlen, g0, g1, g2, g3⟩ := trod_fields4 Tryz.underlying68 h
  rw [hO] at hlen
  obtain ⟨c0, c1, c2, c3, c4, rfl⟩ := list5 hlen
  simp only [hI, hB, hS, List.drop_zero, List.drop_succ_cons, List.take_succ_cons, List.take_zero] at g0 g1 g2 g3
  obtain ⟨p, e0, _, _⟩ := DataW.trod_int Tryz.underlying3 g0
  obtain ⟨z0, z1, n', _, _, t0, t1⟩ := trod_struct2 Tryz.underlying65 g1
  simp only [hI, List.drop_zero, List.drop_succ_cons, List.take_succ_cons, List.take_zero] at t0 t1
  obtain ⟨q1, e1, _, _⟩ := DataW.trod_int Tryz.underlying3 t0
  obtain ⟨q2, e2, _, _⟩ := DataW.trod_int Tryz.underlying3 t1
  have s3 : ∃ A n c, c3 = .slice A n c := by
    rcases open_slice Tryz.underlying66 g2 with ⟨hcs, _⟩ | ⟨a, len', cap', _, _, _, _, hcs, _⟩
    · simp at hcs; exact ⟨_, _, _, hcs⟩
    · simp at hcs; exact ⟨_, _, _, hcs⟩
  have s4 : ∃ A n c, c4 = .slice A n c := by
    rcases open_slice Tryz.underlying66 g3 with ⟨hcs, _⟩ | ⟨a, len', cap', _, _, _, _, hcs, _⟩
    · simp at hcs; exact ⟨_, _, _, hcs⟩
    · simp at hcs; exact ⟨_, _, _, hcs⟩
  obtain ⟨A, k, c, rfl⟩ := s3
  obtain ⟨B, m, d, rfl⟩ := s4
  obtain ⟨l3, r3, i3⟩ := hintsI_open g2
  obtain ⟨l4, r4, _⟩ := hintsI_open g3
  simp at e0 e1 e2
  subst e0 e1 e2
  exact ⟨⟨p, (q1, q2), l3, l4⟩, A, k, c, B, m, d, rfl, r3, r4, i3⟩
theorem hobsI_open {A : Option Addr} {len cap fuel : Nat} {x : DataW H × List MemPlace}
    (h : DataW.trod enc Tryz.prog w 0 (fun _ => true) true fuel 22 [.slice A len cap] = some x) : ∃ l, RdO w A len l ∧ ∀ x ∈ l, ∀ n ∈ x.ws, IsInt n := by
  have h5 : Tryz.prog.cellsOf 68 = 5 := by kernel_rfl
  rcases open_slice Tryz.underlying22 h with ⟨hcs, _⟩ | ⟨a, len', cap', m, n, D, Pl, hcs, _, hl, _, hm, _, hi⟩
  · simp at hcs
    obtain ⟨rfl, rfl, rfl⟩ := hcs
    exact ⟨[], RdO.nil, fun x hx => by cases hx⟩
  · simp at hcs
    obtain ⟨rfl, rfl, rfl⟩ := hcs
    simp only [if_true] at hm
    subst hm
    by_cases h0 : m = 0
    · subst h0
      obtain rfl : len = 0 := by omega
      exact ⟨[], ⟨rfl, fun q => by omega⟩, fun x hx => by cases hx⟩
    obtain ⟨b, off, spot⟩ := a
    have hcell : ∀ i, i < m → ∃ (y : Ob) (A : Option Addr) (n c : Nat) (B : Option Addr) (m d : Nat), RdI w A n y.ws ∧ RdI w B m y.ls ∧ (∀ n ∈ y.ws, IsInt n) ∧ ∀ j v, [Value.int .i64 y.hd, .int .i64 y.bl.1, .int .i64 y.bl.2, .slice A n c, .slice B m d][j]? = some v → w.cell? (((⟨b, off, spot⟩ : Addr).add (i * 5)).add j) = some v := fun i hlt => by
      obtain ⟨cs, hc, ht⟩ := hi i hlt
      rw [h5] at hc
      obtain ⟨_, hcl, hat⟩ := World.cells?_some hc
      obtain ⟨y, A, n, c, B, m, d, rfl, r1, r2, ri⟩ := hobI_open ht
      refine ⟨y, A, n, c, B, m, d, r1, r2, ri, fun j v hj => ?_⟩
      have hj5 : j < 5 := (List.getElem?_eq_some_iff.1 hj).1
      rw [hat j (by simpa using hj5)]
      exact hj
    obtain ⟨y0, A0, n0, c0, B0, m0, d0, _, _, _, hk0⟩ := hcell 0 (by omega)
    have hk := hk0 0 _ rfl
    have hspot : spot = none := by simpa [Addr.add] using World.cell?_spot hk
    subst hspot
    have hlt : b < w.heap.size := by
      have := World.block_lt_of_cell? w _ hk
      simpa [Addr.add] using this
    have key : ∀ i, i < m → ∃ y, ObAt w b (off + i * 5) y ∧ ∀ n ∈ y.ws, IsInt n := fun i him => by
      obtain ⟨y, A, n, c, B, m, d, r1, r2, ri, hc⟩ := hcell i him
      simp only [add_plain] at hc
      exact ⟨y, ⟨A, n, c, B, m, d, hc 0 _ rfl, hc 1 _ rfl, hc 2 _ rfl, hc 3 _ rfl, hc 4 _ rfl, r1, r2⟩, ri⟩
    have key2 : ∀ k, k ≤ m → ∃ l : List Ob, l.length = k ∧ ∀ j x, l[j]? = some x → ObAt w b (off + j * 5) x ∧ ∀ n ∈ x.ws, IsInt n := by
      intro k
      induction k with
      | zero => intro _; exact ⟨[], rfl, fun j x hj => by simp at hj⟩
      | succ k ih =>
        intro hk
        obtain ⟨l, h1, h2⟩ := ih (by omega)
        obtain ⟨y, hy⟩ := key k (by omega)
        refine ⟨l ++ [y], by simp [h1], fun j x hj => ?_⟩
        by_cases hjk : j < k
        · rw [List.getElem?_append_left (by omega)] at hj
          exact h2 j x hj
        · have hlt := (List.getElem?_eq_some_iff.1 hj).1
          simp [h1] at hlt
          obtain rfl : j = k := by omega
          rw [List.getElem?_append_right (by omega), h1, Nat.sub_self] at hj
          simp at hj
          subst hj
          exact hy
    obtain ⟨l, hl', hc⟩ := key2 len hl
    exact ⟨l, ⟨hl', fun _ => ⟨b, off, rfl, hlt, fun j x hj => (hc j x hj).1⟩⟩, fun x hx => by obtain ⟨j, hj⟩ := List.mem_iff_getElem?.1 hx; exact (hc j x hj).2⟩
/-- A heap that came in reads as one. -/
theorem heapI_open {cs : List Value} {fuel : Nat} {x : DataW H × List MemPlace} (h : DataW.trod enc Tryz.prog w 0 (fun _ => true) true fuel 26 cs = some x) :
    ∃ (G : Hp) (s : HSl), cs = hcs G s ∧ RdH w s G ∧ IntsH G := by
  have hI : Tryz.prog.cellsOf 3 = 1 := by kernel_rfl
  have hT : Tryz.prog.cellsOf 23 = 4 := by kernel_rfl
  have hS : Tryz.prog.cellsOf 22 = 1 := by kernel_rfl
  have hF : Tryz.prog.cellsOf 24 = 1 := by kernel_rfl
  have hO : Tryz.prog.cellsOf 26 = 8 := by kernel_rfl
  obtain ⟨n, y0, y1, y2, y3, y4, hlen, g0, g1, g2, g3, g4⟩ := trod_fields5 Tryz.underlying26 h
  rw [hO] at hlen
  obtain ⟨c0, c1, c2, c3, c4, c5, c6, c7, rfl⟩ := list8 hlen
  simp only [hI, hT, hS, hF, List.drop_zero, List.drop_succ_cons, List.take_succ_cons, List.take_zero] at g0 g1 g2 g3 g4
  obtain ⟨od, e0, _, _⟩ := DataW.trod_int Tryz.underlying3 g0
  obtain ⟨nx, e2, _, wn⟩ := DataW.trod_int Tryz.underlying3 g2
  obtain ⟨ys, n', _, _, _, hyl, hat⟩ := DataW.trod_array Tryz.underlying23 g3
  obtain ⟨z0, z1, z2, z3, rfl⟩ := list4 hyl
  have t0 := hat 0 (by omega)
  have t1 := hat 1 (by omega)
  have t2 := hat 2 (by omega)
  have t3 := hat 3 (by omega)
  simp only [hI, Nat.mul_one, List.drop_zero, List.drop_succ_cons, List.take_succ_cons, List.take_zero, List.getElem?_cons_zero, List.getElem?_cons_succ] at t0 t1 t2 t3
  obtain ⟨a0, f0, _, _⟩ := DataW.trod_int Tryz.underlying3 t0
  obtain ⟨a1, f1, _, _⟩ := DataW.trod_int Tryz.underlying3 t1
  obtain ⟨a2, f2, _, _⟩ := DataW.trod_int Tryz.underlying3 t2
  obtain ⟨a3, f3, _, _⟩ := DataW.trod_int Tryz.underlying3 t3
  have s1 : ∃ A n c, c1 = .slice A n c := by
    rcases open_slice Tryz.underlying22 g1 with ⟨hcs, _⟩ | ⟨a, len', cap', _, _, _, _, hcs, _⟩
    · simp at hcs; exact ⟨_, _, _, hcs⟩
    · simp at hcs; exact ⟨_, _, _, hcs⟩
  have s7 : ∃ A n c, c7 = .slice A n c := by
    rcases open_slice Tryz.underlying24 g4 with ⟨hcs, _⟩ | ⟨a, len', cap', _, _, _, _, hcs, _⟩
    · simp at hcs; exact ⟨_, _, _, hcs⟩
    · simp at hcs; exact ⟨_, _, _, hcs⟩
  obtain ⟨A, k, c, rfl⟩ := s1
  obtain ⟨F, m, d, rfl⟩ := s7
  obtain ⟨obs, r1, i1⟩ := hobsI_open g1
  obtain ⟨fr, r7⟩ := hblks_open g4
  simp at e0 e2 f0 f1 f2 f3
  subst e0 e2 f0 f1 f2 f3
  exact ⟨⟨od, obs, nx, [a0, a1, a2, a3], fr⟩, ⟨A, k, c, F, m, d⟩, rfl, ⟨r1, r7, rfl, (wf_i64 wn).2⟩, i1⟩
end
end Go.Proofs.YtlnmmklpccppmaaGreatDoor
namespace Go.Proofs.YtlnmmklpccppmaaGreatDoor
open Go.RowKit

set_option maxHeartbeats 4000000 in
set_option maxRecDepth 20000 in
theorem imageHeaps_walk (s : HSl) (H : Hp) (w : World) (hT : Tab w) (h : RdH w s H) (hI : IntsH H) : Calls Tryz.prog 3 #[hval H s] w (Holds w) := by
  have g1 := (Below.refl w.heap.size w).alloc (Nat.le_refl _) (.cells (hcs H s).toArray 26)
  have K0 := Whole.new w (hcs H s).toArray 26
  have S1 := refBig_any s H _ (h.below g1)
  have HT := Lib.hid hT
  have HR := Lib.hid h
  have HI := Lib.hid hI
  clear hT h hI
  obtain ⟨A, n, c, F, m, d⟩ := s
  simp only [hval, hcs] at *
  go_enter Tryz.func3, Tryz.ntmps3
  go_wp2_with fail
  generalize w.alloc (.cells #[.int .i64 H.od, .slice A n c, .int .i64 H.nx, .int .i64 (tget H 0), .int .i64 (tget H 1), .int .i64 (tget H 2), .int .i64 (tget H 3), .slice F m d] 26) = W at g1 K0 S1 ⊢
  refine Calls.mono S1 ?_
  rintro e w1 ⟨q, rfl, hq, gr1⟩
  have b1 := gr1.below
  have B1 := g1.trans (b1.mono g1.size)
  have K1 := K0.below b1
  cases q with
  | true =>
    clear K1 K0 S1
    go_wp2
    go_ret
    exact ⟨rfl, B1⟩
  | false =>
    have hS := hq rfl
    have S2 := refOwnH_any ⟨A, n, c, F, m, d⟩ H w1 (HR.out.below B1) hS
    have c0 := K1.cell 0
    have c1 := K1.cell 1
    have c2 := K1.cell 2
    have c3 := K1.cell 3
    have c4 := K1.cell 4
    have c5 := K1.cell 5
    have c6 := K1.cell 6
    have c7 := K1.cell 7
    clear S1 K0 hq
    go_wp2_with fail
    refine S2.mono ?_
    rintro e w2 ⟨⟨A2, n2, cc2, F2, m2, d2⟩, os2, rfl, O2, b2⟩
    simp only [hval, hcs]
    have B2 := B1.trans (b2.mono B1.size)
    have K2 := K1.below b2
    clear S2 c0 c1 c2 c3 c4 c5 c6 c7 K1 b1 gr1
    have O2H := Lib.hid O2
    have gX := (Below.refl w2.heap.size w2).alloc (Nat.le_refl _) (.cells #[.int .i64 H.od, .slice A2 n2 cc2, .int .i64 H.nx, .int .i64 (tget H 0), .int .i64 (tget H 1), .int .i64 (tget H 2), .int .i64 (tget H 3), .slice F2 m2 d2] 26)
    have KX := Whole.new w2 #[.int .i64 H.od, .slice A2 n2 cc2, .int .i64 H.nx, .int .i64 (tget H 0), .int .i64 (tget H 1), .int .i64 (tget H 2), .int .i64 (tget H 3), .slice F2 m2 d2] 26
    have K3 := K2.below gX
    have B3 := B2.trans (gX.mono B2.size)
    have R3 := O2.rd.below gX
    obtain ⟨c0, c1, c2, c3, c4, c5, c6, c7⟩ := K3.eight
    clear O2
    go_wp2_with fail
    generalize w2.alloc (.cells #[.int .i64 H.od, .slice A2 n2 cc2, .int .i64 H.nx, .int .i64 (tget H 0), .int .i64 (tget H 1), .int .i64 (tget H 2), .int .i64 (tget H 3), .slice F2 m2 d2] 26) = W3 at gX KX K3 B3 R3 ⊢
    clear K2 B2 b2 gX O2H c0 c1 c2 c3 c4 c5 c6 c7
    have S3 := putHeap_any ⟨A, n, c, F, m, d⟩ H W3 (HR.out.below B3) hS (HT.out.below B3) HI.out
    simp only [hval, hcs] at S3
    refine S3.mono ?_
    rintro e w4 ⟨b4, hput⟩
    have B4 := B3.trans (b4.mono B3.size)
    have K4 := K3.below b4
    have KX4 := KX.below b4
    have R4 := R3.below b4
    have S4 := refPutHeap_any ⟨A2, n2, cc2, F2, m2, d2⟩ H w4 R4 hS HI.out
    simp only [hval, hcs] at S4
    obtain ⟨c0, c1, c2, c3, c4, c5, c6, c7⟩ := KX4.eight
    clear S3 K3 KX R3
    rcases hput with ⟨hR, v4, rfl, o4⟩ | ⟨hR, rfl⟩
    · obtain ⟨Y, hY⟩ : ∃ Y, Y = encH H := ⟨_, rfl⟩
      have hYl := (show ImH H from ⟨hR, HR.out.tp, HI.out⟩).size
      rw [← hY] at o4 hYl
      have hyl := Lib.hid hYl
      have hy := Lib.hid hY
      clear hYl hY
      obtain ⟨A4, cc4, rfl, _, _, r4⟩ := o4.shape
      clear o4
      go_wp2_with fail
      refine S4.mono ?_
      rintro e w5 ⟨b5, hput5⟩
      obtain ⟨v5, rfl, o5⟩ : ∃ v, e = .returned (.tuple #[v, .int .i64 0]) ∧ Own 5 w5 w4.heap.size v Y := by
        rw [hy.out]
        rcases hput5 with ⟨_, h⟩ | ⟨h, _⟩
        · exact h
        · exact absurd hR h
      have hR' : RightH H := hR
      have HRt := Lib.hid hR'
      clear hput5 S4 hR hR'
      have B5 := B4.trans (b5.mono B4.size)
      have K5 := K4.below b5
      have KX5 := KX4.below b5
      have r5 := r4.below b5
      have R5 := R4.below b5
      obtain ⟨A5, cc5, rfl, _, _, q5⟩ := o5.shape
      have k1 := r5.conv (P := Tryz.prog) cc4 29 5 9 Tryz.underlying29 Tryz.underlying5 Tryz.underlying9
      have k2 := q5.conv (P := Tryz.prog) cc5 29 5 9 Tryz.underlying29 Tryz.underlying5 Tryz.underlying9
      have S6 := refSameH_any ⟨A, n, c, F, m, d⟩ ⟨A2, n2, cc2, F2, m2, d2⟩ H H w5 (HR.out.below B5) R5 hS
      rw [decide_eq_true rfl] at S6
      simp only [hval, hcs] at S6
      clear c0 c1 c2 c3 c4 c5 c6 c7
      obtain ⟨c0, c1, c2, c3, c4, c5, c6, c7⟩ := K5.eight
      obtain ⟨u0, u1, u2, u3, u4, u5, u6, u7⟩ := KX5.eight
      clear o5 b5 B4 K4 KX4 r4 R4
      go_wp2_with fail
      refine S6.mono ?_
      rintro e w6 ⟨rfl, g6⟩
      have r6 := r5.below g6.below
      have B6 := B5.trans (g6.below.mono B5.size)
      have K6 := K5.below g6.below
      clear S6 K5 KX5 r5 R5 q5 k1 k2 c0 c1 c2 c3 c4 c5 c6 c7 u0 u1 u2 u3 u4 u5 u6 u7 B5
      have S7 := getHeap_any A4 Y.length cc4 Y w6 r6 (Nat.le_trans hyl.out (by decide)) (HT.out.below B6)
      go_wp2_with fail
      refine S7.mono ?_
      rintro e w7 ⟨b7, hgot⟩
      obtain ⟨s7, os7, rfl, O7⟩ : ∃ s os, e = .returned (.tuple #[hval H s, .int .i64 0]) ∧ OwnHp w7 w6.heap.size s os H := by
        have hg0 : GetsH Y (some H) := ⟨⟨HRt.out, HR.out.tp, HI.out⟩, hy.out.symm⟩
        rcases hgot with ⟨G, s, os, he, ho, hg⟩ | ⟨_, hg⟩
        · have := hg0.uniq hg
          injection this with this
          subst this
          exact ⟨s, os, he, ho⟩
        · cases hg0.uniq hg
      obtain ⟨A7, n7, c7, F7, m7, d7⟩ := s7
      have B7 := B6.trans (b7.mono B6.size)
      have K7 := K6.below b7
      simp only [hval, hcs]
      have gY := (Below.refl w7.heap.size w7).alloc (Nat.le_refl _) (.cells #[.int .i64 H.od, .slice A7 n7 c7, .int .i64 H.nx, .int .i64 (tget H 0), .int .i64 (tget H 1), .int .i64 (tget H 2), .int .i64 (tget H 3), .slice F7 m7 d7] 26)
      have KY := Whole.new w7 #[.int .i64 H.od, .slice A7 n7 c7, .int .i64 H.nx, .int .i64 (tget H 0), .int .i64 (tget H 1), .int .i64 (tget H 2), .int .i64 (tget H 3), .slice F7 m7 d7] 26
      have R8 := O7.rd.below gY
      have B8 := B7.trans (gY.mono B7.size)
      have K8 := K7.below gY
      clear hgot O7 K6 K7 B6 B7 b7 g6 S7 r6
      go_wp2_with fail
      generalize w7.alloc (.cells #[.int .i64 H.od, .slice A7 n7 c7, .int .i64 H.nx, .int .i64 (tget H 0), .int .i64 (tget H 1), .int .i64 (tget H 2), .int .i64 (tget H 3), .slice F7 m7 d7] 26) = W8 at gY KY R8 B8 K8 ⊢
      refine (heaps_holds W8 (HT.out.below B8)).mono ?_
      rintro e w9 ⟨rfl, b9⟩
      have B9 := B8.trans (b9.mono B8.size)
      have K9 := K8.below b9
      have KY9 := KY.below b9
      have S9 := refSameH_any ⟨A7, n7, c7, F7, m7, d7⟩ ⟨A, n, c, F, m, d⟩ H H w9 (R8.below b9) (HR.out.below B9) hS
      rw [decide_eq_true rfl] at S9
      simp only [hval, hcs] at S9
      obtain ⟨c0, c1, c2, c3, c4, c5, c6, c7⟩ := K9.eight
      obtain ⟨u0, u1, u2, u3, u4, u5, u6, u7⟩ := KY9.eight
      clear K8 KY R8 B8 b9 gY K9 KY9
      go_wp2_with fail
      refine S9.mono ?_
      rintro e w10 ⟨rfl, g10⟩
      have B10 := Lib.hid (B9.trans (g10.below.mono B9.size))
      clear S9 c0 c1 c2 c3 c4 c5 c6 c7 u0 u1 u2 u3 u4 u5 u6 u7 B9 g10
      go_wp2
      go_ret
      exact ⟨rfl, B10.out⟩
    · clear c0 c1 c2 c3 c4 c5 c6 c7
      obtain ⟨c0, c1, c2, c3, c4, c5, c6, c7⟩ := KX4.eight
      have HRt := Lib.hid hR
      clear hR
      go_wp2_with fail
      refine S4.mono ?_
      rintro e w5 ⟨b5, hput5⟩
      obtain rfl : e = .returned (.tuple #[.slice none 0 0, .int .i64 60]) := by
        rcases hput5 with ⟨h, _⟩ | ⟨_, h⟩
        · exact absurd h HRt.out
        · exact h
      clear hput5 S4
      have B5 := B4.trans (b5.mono B4.size)
      have K5 := K4.below b5
      have KX5 := KX4.below b5
      have R5 := R4.below b5
      have k1 := (Rd.nil (w := w5) (A := none)).conv (P := Tryz.prog) 0 29 5 9 Tryz.underlying29 Tryz.underlying5 Tryz.underlying9
      have S6 := refSameH_any ⟨A, n, c, F, m, d⟩ ⟨A2, n2, cc2, F2, m2, d2⟩ H H w5 (HR.out.below B5) R5 hS
      rw [decide_eq_true rfl] at S6
      simp only [hval, hcs] at S6
      clear c0 c1 c2 c3 c4 c5 c6 c7
      obtain ⟨c0, c1, c2, c3, c4, c5, c6, c7⟩ := K5.eight
      obtain ⟨u0, u1, u2, u3, u4, u5, u6, u7⟩ := KX5.eight
      clear b5 B4 K4 KX4 R4
      go_wp2_with fail
      refine S6.mono ?_
      rintro e w6 ⟨rfl, g6⟩
      have B6 := B5.trans (g6.below.mono B5.size)
      clear S6 K5 KX5 R5 k1 c0 c1 c2 c3 c4 c5 c6 c7 u0 u1 u2 u3 u4 u5 u6 u7 B5
      go_wp2_with fail
      refine (heaps_holds w6 (HT.out.below B6)).mono ?_
      rintro e w9 ⟨rfl, b9⟩
      have B10 := Lib.hid (B6.trans (b9.mono B6.size))
      clear B6 b9 g6
      go_wp2
      go_ret
      exact ⟨rfl, B10.out⟩
end Go.Proofs.YtlnmmklpccppmaaGreatDoor

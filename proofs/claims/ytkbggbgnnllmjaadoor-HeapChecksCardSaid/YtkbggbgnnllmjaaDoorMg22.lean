/-
  The law HeapChecks, walked.
-/
import Derived.Test.YtkbggbgnnllmjaaDoorMg20
import Derived.Test.YtkbggbgnnllmjaaDoorMg21
namespace Go.Proofs.YtkbggbgnnllmjaaDoor
open Go.RowKit

theorem Whole.eight {w : World} {g : Nat} {t : TypeId} {a0 a1 a2 a3 a4 a5 a6 a7 : Value} (h : Whole w g t [a0, a1, a2, a3, a4, a5, a6, a7]) :
    w.cell? ⟨g, 0, none⟩ = some a0 ∧ w.cell? ⟨g, 1, none⟩ = some a1 ∧ w.cell? ⟨g, 2, none⟩ = some a2 ∧ w.cell? ⟨g, 3, none⟩ = some a3 ∧ w.cell? ⟨g, 4, none⟩ = some a4 ∧ w.cell? ⟨g, 5, none⟩ = some a5 ∧ w.cell? ⟨g, 6, none⟩ = some a6 ∧ w.cell? ⟨g, 7, none⟩ = some a7 :=
  ⟨h.cell 0, h.cell 1, h.cell 2, h.cell 3, h.cell 4, h.cell 5, h.cell 6, h.cell 7⟩
theorem small_newR (r : Int) : SmallH (newR r) := by
  unfold newR
  split
  · exact ⟨by simp [newH], by simp [newH], fun x hx => by cases hx⟩
  · exact ⟨by simp [zeroH], by simp [zeroH], fun x hx => by cases hx⟩
/-- A heap in a box, and the world that has it. -/
theorem box_heap (w : World) (a0 a1 a2 a3 a4 a5 a6 a7 : Value) :
    ∃ p W, w.alloc (.cells #[a0, a1, a2, a3, a4, a5, a6, a7] 26) = W ∧ p = w.heap.size ∧ Whole W p 26 [a0, a1, a2, a3, a4, a5, a6, a7] ∧ Below w.heap.size w W :=
  ⟨_, _, rfl, rfl, Whole.new w #[a0, a1, a2, a3, a4, a5, a6, a7] 26, (Below.refl _ _).alloc (Nat.le_refl _) _⟩

set_option maxRecDepth 100000 in
set_option maxHeartbeats 4000000 in
theorem checks_law (s : HSl) (H : Hp) (r a b : Int) (w : World) (hT : Tab w) (h : RdH w s H) :
    Calls Tryd.prog 3 #[hval H s, .int .i64 r, .int .i64 a, .int .i64 b] w (Tells w (.bool true)) := by
  have HT := Lib.hid hT
  have HR := Lib.hid h
  have g1 := (Below.refl w.heap.size w).alloc (Nat.le_refl _) (.cells (hcs H s).toArray 26)
  have S1 := refBig_any s H _ (h.below g1)
  clear hT h g1
  go_enter Tryd.func3, Tryd.ntmps3
  obtain ⟨A, n, c, F, m, d⟩ := s
  simp only [hval, hcs] at *
  have BX := box_heap w (.int .i64 H.od) (.slice A n c) (.int .i64 H.nx) (.int .i64 (tget H 0)) (.int .i64 (tget H 1)) (.int .i64 (tget H 2)) (.int .i64 (tget H 3)) (.slice F m d)
  obtain ⟨p, W, hW, hp, K, bw⟩ := BX
  rw [hW] at S1
  go_upto_region 1 with (fail)
  rw [← hp]
  clear hW hp
  obtain ⟨c0, c1, c2, c3, c4, c5, c6, c7⟩ := K.eight
  obtain ⟨KH, BH⟩ := And.intro (Lib.hid K) (Lib.hid bw)
  clear K bw
  go_upto_region 3 with (go_at_call 4; refine S1.mono ?_; rintro e w1 ⟨q, rfl, hq, g1⟩; cases q)
  rotate_left
  · go_ret
    exact ⟨rfl, BH.out.trans (g1.below.mono BH.out.size)⟩
  clear S1
  have b1 := g1.below
  have K1 := KH.out.below b1
  have B1 := Lib.hid (BH.out.trans (b1.mono BH.out.size))
  clear g1 b1 BH c0 c1 c2 c3 c4 c5 c6 c7
  have hS := Lib.hid (hq (by first | rfl | trivial))
  have R1 := HR.out.below B1.out
  clear hq
  obtain ⟨c0, c1, c2, c3, c4, c5, c6, c7⟩ := K1.eight
  have K1H := Lib.hid K1
  have S2 := refOwnH_any ⟨A, n, c, F, m, d⟩ H w1 R1 hS.out
  simp only [hval, hcs] at S2
  clear K1 R1 KH
  go_upto_region 4 with (go_at_call 5; refine S2.mono ?_; rintro e w2 ⟨⟨A2, n2, c2', F2, m2, d2⟩, os, rfl, o2, b2⟩; simp only [hval, hcs])
  clear S2 c0 c1 c2 c3 c4 c5 c6 c7
  obtain ⟨p2, W2, hW2, hp2, K2, bw2⟩ := box_heap w2 (.int .i64 H.od) (.slice A2 n2 c2') (.int .i64 H.nx) (.int .i64 (tget H 0)) (.int .i64 (tget H 1)) (.int .i64 (tget H 2)) (.int .i64 (tget H 3)) (.slice F2 m2 d2)
  rw [hW2, ← hp2]
  have B2 := Lib.hid (B1.out.trans ((b2.trans (bw2.mono b2.size)).mono B1.out.size))
  have K12 := Lib.hid (K1H.out.below (b2.trans (bw2.mono b2.size)))
  have O2 := Lib.hid (o2.rd.below bw2)
  have K2H := Lib.hid K2
  clear hW2 hp2 K2 bw2 b2 o2 B1 K1H
  -- the new ones
  go_upto_region 5 with (go_at_call 6; refine (new_heap r _).mono ?_; rintro e w3 ⟨⟨A3, n3, c3', F3, m3, d3⟩, rfl, o3, b3⟩; simp only [hval, hcs])
  obtain ⟨p3, W3, hW3, hp3, K3, bw3⟩ := box_heap w3 (.int .i64 (newR r).od) (.slice A3 n3 c3') (.int .i64 (newR r).nx) (.int .i64 (tget (newR r) 0)) (.int .i64 (tget (newR r) 1)) (.int .i64 (tget (newR r) 2)) (.int .i64 (tget (newR r) 3)) (.slice F3 m3 d3)
  rw [hW3, ← hp3]
  have bb3 := b3.trans (bw3.mono b3.size)
  have B3 := Lib.hid (B2.out.trans (bb3.mono B2.out.size))
  have K13 := Lib.hid (K12.out.below bb3)
  have K23 := Lib.hid (K2H.out.below bb3)
  have O23 := Lib.hid (O2.out.below bb3)
  have O3 := Lib.hid (o3.rd.below bw3)
  have K3H := Lib.hid K3
  clear hW3 hp3 K3 bw3 b3 bb3 o3 B2 K12 K2H O2
  go_upto_region 6 with (go_at_call 7; refine (refNew_heap r _).mono ?_; rintro e w4 ⟨⟨A4, n4, c4', F4, m4, d4⟩, rfl, o4, b4⟩; simp only [hval, hcs])
  obtain ⟨p4, W4, hW4, hp4, K4, bw4⟩ := box_heap w4 (.int .i64 (newR r).od) (.slice A4 n4 c4') (.int .i64 (newR r).nx) (.int .i64 (tget (newR r) 0)) (.int .i64 (tget (newR r) 1)) (.int .i64 (tget (newR r) 2)) (.int .i64 (tget (newR r) 3)) (.slice F4 m4 d4)
  rw [hW4, ← hp4]
  have bb4 := b4.trans (bw4.mono b4.size)
  have B4 := Lib.hid (B3.out.trans (bb4.mono B3.out.size))
  have K14 := Lib.hid (K13.out.below bb4)
  have K24 := Lib.hid (K23.out.below bb4)
  have K34 := Lib.hid (K3H.out.below bb4)
  have O24 := Lib.hid (O23.out.below bb4)
  have O34 := Lib.hid (O3.out.below bb4)
  have O4 := Lib.hid (o4.rd.below bw4)
  have K4H := Lib.hid K4
  clear hW4 hp4 K4 bw4 b4 bb4 o4 B3 K13 K23 K3H O23 O3
  -- is it right?
  obtain ⟨c0, c1, c2, c3, c4, c5, c6, c7⟩ := K14.out.eight
  have S5 := check_heap ⟨A, n, c, F, m, d⟩ H W4 (HR.out.below B4.out) hS.out (HT.out.below B4.out)
  simp only [hval, hcs] at S5
  go_upto_region 7 with (go_at_call 8; refine S5.mono ?_; rintro e w5 ⟨rfl, b5⟩)
  clear S5 c0 c1 c2 c3 c4 c5 c6 c7
  have B5 := Lib.hid (B4.out.trans (b5.mono B4.out.size))
  have K15 := Lib.hid (K14.out.below b5)
  have K25 := Lib.hid (K24.out.below b5)
  have K35 := Lib.hid (K34.out.below b5)
  have K45 := Lib.hid (K4H.out.below b5)
  have O25 := Lib.hid (O24.out.below b5)
  have O35 := Lib.hid (O34.out.below b5)
  have O45 := Lib.hid (O4.out.below b5)
  clear b5 B4 K14 K24 K34 K4H O24 O34 O4
  have Q6 := fresh_any w5 (HT.out.below B5.out)
  have Q7 := fun (W : World) (b : Below w5.heap.size w5 W) => (by have := refSameH_any ⟨A3, n3, c3', F3, m3, d3⟩ ⟨A4, n4, c4', F4, m4, d4⟩ (newR r) (newR r) W (O35.out.below b) (O45.out.below b) (small_newR r); rw [decide_eq_true rfl] at this; simp only [hval, hcs] at this; exact this : Calls Tryd.prog 10 #[.agg #[.int .i64 (newR r).od, .slice A3 n3 c3', .int .i64 (newR r).nx, .int .i64 (tget (newR r) 0), .int .i64 (tget (newR r) 1), .int .i64 (tget (newR r) 2), .int .i64 (tget (newR r) 3), .slice F3 m3 d3], .agg #[.int .i64 (newR r).od, .slice A4 n4 c4', .int .i64 (newR r).nx, .int .i64 (tget (newR r) 0), .int .i64 (tget (newR r) 1), .int .i64 (tget (newR r) 2), .int .i64 (tget (newR r) 3), .slice F4 m4 d4]] W (Says W (.bool true)))
  have Q9 := fun (W : World) (b : Below w5.heap.size w5 W) => (by have := refSameH_any ⟨A, n, c, F, m, d⟩ ⟨A2, n2, c2', F2, m2, d2⟩ H H W (HR.out.below (B5.out.trans (b.mono B5.out.size))) (O25.out.below b) hS.out; rw [decide_eq_true rfl] at this; simp only [hval, hcs] at this; exact this : Calls Tryd.prog 10 #[.agg #[.int .i64 H.od, .slice A n c, .int .i64 H.nx, .int .i64 (tget H 0), .int .i64 (tget H 1), .int .i64 (tget H 2), .int .i64 (tget H 3), .slice F m d], .agg #[.int .i64 H.od, .slice A2 n2 c2', .int .i64 H.nx, .int .i64 (tget H 0), .int .i64 (tget H 1), .int .i64 (tget H 2), .int .i64 (tget H 3), .slice F2 m2 d2]] W (Says W (.bool true)))
  have Q8 := fun (W : World) (b : Below w5.heap.size w5 W) => (by have := refRightH_any ⟨A2, n2, c2', F2, m2, d2⟩ H W (O25.out.below b) hS.out; simp only [hval, hcs] at this; exact this : Calls Tryd.prog 11 #[.agg #[.int .i64 H.od, .slice A2 n2 c2', .int .i64 H.nx, .int .i64 (tget H 0), .int .i64 (tget H 1), .int .i64 (tget H 2), .int .i64 (tget H 3), .slice F2 m2 d2]] W (Tells W (.bool (decide (RightH H)))))
  have N1 := fun W => need_any a b W
  have N2 := fun W => refNeed_any a b W
  generalize needI a b = nd at N1 N2
  generalize newE r = ne
  generalize (newR r).od = r0 at Q7 K35 K45 ⊢
  generalize (newR r).nx = r1 at Q7 K35 K45 ⊢
  generalize tget (newR r) 0 = r2 at Q7 K35 K45 ⊢
  generalize tget (newR r) 1 = r3 at Q7 K35 K45 ⊢
  generalize tget (newR r) 2 = r4 at Q7 K35 K45 ⊢
  generalize tget (newR r) 3 = r5 at Q7 K35 K45 ⊢
  have HQ7 := Lib.hid Q7
  have HQ8 := Lib.hid Q8
  have HQ9 := Lib.hid Q9
  clear Q7 Q8 Q9 O25 O35 O45 hS HR HT
  by_cases hR : RightH H
  · rw [chkH_yes hR]
    rw [decide_eq_true hR] at HQ8
    clear hR
    go_wp2_with (first
      | (go_at_call 9; refine Q6.mono ?_; rintro e w6 ⟨rfl, b6⟩; obtain ⟨x0, x1, x2, x3, x4, x5, x6, x7⟩ := (K35.out.below b6).eight; obtain ⟨y0, y1, y2, y3, y4, y5, y6, y7⟩ := (K45.out.below b6).eight)
      | (go_at_call 10; (with_reducible refine (HQ7.out _ b6).mono ?_); rintro e w7 ⟨rfl, g7⟩; have b7 := b6.trans (g7.below.mono b6.size); obtain ⟨z0, z1, z2, z3, z4, z5, z6, z7⟩ := (K25.out.below b7).eight)
      | (go_at_call 11; refine (HQ8.out _ b7).mono ?_; rintro e w8 ⟨rfl, b8'⟩; have b8 := b7.trans (b8'.mono b7.size); obtain ⟨u0, u1, u2, u3, u4, u5, u6, u7⟩ := (K25.out.below b8).eight; obtain ⟨v0, v1, v2, v3, v4, v5, v6, v7⟩ := (K15.out.below b8).eight)
      | (go_at_call 12; refine (N1 _).mono ?_; rintro e w9 ⟨rfl, rfl⟩)
      | (go_at_call 13; refine (N2 _).mono ?_; rintro e w9 ⟨rfl, rfl⟩)
      | (go_at_call 10; (with_reducible refine (HQ9.out _ b8).mono ?_); rintro e w9 ⟨rfl, g9⟩))
    go_ret
    exact ⟨by first | rfl | (simp; done), B5.out.trans ((b8.trans (g9.below.mono b8.size)).mono B5.out.size)⟩
  · rw [chkH_no hR]
    rw [decide_eq_false hR] at HQ8
    clear hR
    go_wp2_with (first
      | (go_at_call 9; refine Q6.mono ?_; rintro e w6 ⟨rfl, b6⟩; obtain ⟨x0, x1, x2, x3, x4, x5, x6, x7⟩ := (K35.out.below b6).eight; obtain ⟨y0, y1, y2, y3, y4, y5, y6, y7⟩ := (K45.out.below b6).eight)
      | (go_at_call 10; (with_reducible refine (HQ7.out _ b6).mono ?_); rintro e w7 ⟨rfl, g7⟩; have b7 := b6.trans (g7.below.mono b6.size); obtain ⟨z0, z1, z2, z3, z4, z5, z6, z7⟩ := (K25.out.below b7).eight)
      | (go_at_call 11; refine (HQ8.out _ b7).mono ?_; rintro e w8 ⟨rfl, b8'⟩; have b8 := b7.trans (b8'.mono b7.size); obtain ⟨u0, u1, u2, u3, u4, u5, u6, u7⟩ := (K25.out.below b8).eight; obtain ⟨v0, v1, v2, v3, v4, v5, v6, v7⟩ := (K15.out.below b8).eight)
      | (go_at_call 12; refine (N1 _).mono ?_; rintro e w9 ⟨rfl, rfl⟩)
      | (go_at_call 13; refine (N2 _).mono ?_; rintro e w9 ⟨rfl, rfl⟩)
      | (go_at_call 10; (with_reducible refine (HQ9.out _ b8).mono ?_); rintro e w9 ⟨rfl, g9⟩))
    go_ret
    exact ⟨by first | rfl | (simp; done), B5.out.trans ((b8.trans (g9.below.mono b8.size)).mono B5.out.size)⟩
end Go.Proofs.YtkbggbgnnllmjaaDoor

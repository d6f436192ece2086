/-
  The law HeapKeeps, walked.
-/
import Derived.Test.YtkbggbgnnllmjaaGreatDoorMg29
namespace Go.Proofs.YtkbggbgnnllmjaaGreatDoor
open Go.RowKit

section
open Go.ChangeShapes Go.WideShapes Go.Deep Go.Joins
variable {H : Type} {enc : TypeId × Value → H} {w : World}
theorem list7 {α : Type} {l : List α} (h : l.length = 7) : ∃ a b c d e f g, l = [a, b, c, d, e, f, g] := by
  match l, h with
  | [a, b, c, d, e, f, g], _ => exact ⟨a, b, c, d, e, f, g, rfl⟩
theorem trod_fields7 {P : Program} {b0 : Nat} {sp : Nat → Bool} {hd : Bool} {t : TypeId} {f0 f1 f2 f3 f4 f5 f6 : Field} {cs : List Value} {fuel : Nat} {x : DataW H × List MemPlace} (ht : P.underlying t = some (.struct #[f0, f1, f2, f3, f4, f5, f6])) (h : DataW.trod enc P w b0 sp hd fuel t cs = some x) :
    ∃ n y0 y1 y2 y3 y4 y5 y6, cs.length = P.cellsOf t ∧ DataW.trod enc P w b0 sp hd n f0.type ((cs.drop f0.offset).take (P.cellsOf f0.type)) = some y0 ∧ DataW.trod enc P w b0 sp hd n f1.type ((cs.drop f1.offset).take (P.cellsOf f1.type)) = some y1 ∧ DataW.trod enc P w b0 sp hd n f2.type ((cs.drop f2.offset).take (P.cellsOf f2.type)) = some y2 ∧ DataW.trod enc P w b0 sp hd n f3.type ((cs.drop f3.offset).take (P.cellsOf f3.type)) = some y3 ∧ DataW.trod enc P w b0 sp hd n f4.type ((cs.drop f4.offset).take (P.cellsOf f4.type)) = some y4 ∧ DataW.trod enc P w b0 sp hd n f5.type ((cs.drop f5.offset).take (P.cellsOf f5.type)) = some y5 ∧ DataW.trod enc P w b0 sp hd n f6.type ((cs.drop f6.offset).take (P.cellsOf f6.type)) = some y6 := by
  obtain ⟨xs, n, _, _, hlen, hxl, hg⟩ := DataW.trod_struct ht h
  have hxl2 : xs.length = 7 := hxl
  obtain ⟨y0, y1, y2, y3, y4, y5, y6, rfl⟩ := list7 hxl2
  exact ⟨n, y0, y1, y2, y3, y4, y5, y6, hlen, hg 0 f0 rfl, hg 1 f1 rfl, hg 2 f2 rfl, hg 3 f3 rfl, hg 4 f4 rfl, hg 5 f5 rfl, hg 6 f6 rfl⟩
/-- An operation that came in. -/
theorem op_open {cs : List Value} {fuel : Nat} {x : DataW H × List MemPlace} (h : DataW.trod enc Tryz.prog w 0 (fun _ => true) true fuel 29 cs = some x) : ∃ o, cs = opcs o := by
  have hI : Tryz.prog.cellsOf 3 = 1 := by kernel_rfl
  have hK : Tryz.prog.cellsOf 27 = 1 := by kernel_rfl
  have hO : Tryz.prog.cellsOf 29 = 7 := by kernel_rfl
  obtain ⟨n, y0, y1, y2, y3, y4, y5, y6, hlen, g0, g1, g2, g3, g4, g5, g6⟩ := trod_fields7 Tryz.underlying29 h
  rw [hO] at hlen
  obtain ⟨c0, c1, c2, c3, c4, c5, c6, rfl⟩ := list7 hlen
  simp only [hI, hK, List.drop_zero, List.drop_succ_cons, List.take_succ_cons, List.take_zero] at g0 g1 g2 g3 g4 g5 g6
  obtain ⟨a0, e0, _, _⟩ := DataW.trod_int Tryz.underlying27 g0
  obtain ⟨a1, e1, _, _⟩ := DataW.trod_int Tryz.underlying3 g1
  obtain ⟨a2, e2, _, _⟩ := DataW.trod_int Tryz.underlying3 g2
  obtain ⟨a3, e3, _, _⟩ := DataW.trod_int Tryz.underlying3 g3
  obtain ⟨a4, e4, _, _⟩ := DataW.trod_int Tryz.underlying3 g4
  obtain ⟨a5, e5, _, _⟩ := DataW.trod_int Tryz.underlying3 g5
  obtain ⟨a6, e6, _, _⟩ := DataW.trod_int Tryz.underlying3 g6
  simp at e0 e1 e2 e3 e4 e5 e6
  subst e0 e1 e2 e3 e4 e5 e6
  exact ⟨⟨a0, a1, a2, a3, a4, a5, a6⟩, rfl⟩
end
/-- A heap and an operation in boxes. -/
theorem box_ho (w : World) (a0 a1 a2 a3 a4 a5 a6 a7 b0 b1 b2 b3 b4 b5 b6 : Value) :
    ∃ p W, (w.alloc (.cells #[a0, a1, a2, a3, a4, a5, a6, a7] 26)).alloc (.cells #[b0, b1, b2, b3, b4, b5, b6] 29) = W ∧ p = w.heap.size ∧ Whole W p 26 [a0, a1, a2, a3, a4, a5, a6, a7] ∧ Whole W (p + 1) 29 [b0, b1, b2, b3, b4, b5, b6] ∧ Below w.heap.size w W := by
  have k1 := (Whole.new w #[a0, a1, a2, a3, a4, a5, a6, a7] 26).alloc (.cells #[b0, b1, b2, b3, b4, b5, b6] 29)
  have k2 := Whole.new (w.alloc (.cells #[a0, a1, a2, a3, a4, a5, a6, a7] 26)) #[b0, b1, b2, b3, b4, b5, b6] 29
  rw [show (w.alloc (.cells #[a0, a1, a2, a3, a4, a5, a6, a7] 26)).heap.size = w.heap.size + 1 by simp] at k2
  exact ⟨_, _, rfl, rfl, k1, k2, (((Grew.refl w).alloc _).alloc _).below⟩

set_option maxRecDepth 100000 in
set_option maxHeartbeats 4000000 in
theorem keeps_walk (s : HSl) (H : Hp) (o : Opn) (w : World) (hT : Tab w) (h : RdH w s H) :
    Calls Tryz.prog 4 #[hval H s, opv o] w (Tells w (.bool true)) := by
  have HT := Lib.hid hT
  have HR := Lib.hid h
  have S1 := fun (W : World) (b : Below w.heap.size w W) => refBig_any s H W (h.below b)
  clear hT h
  go_enter Tryz.func4, Tryz.ntmps4
  obtain ⟨A, n, c, F, m, d⟩ := s
  obtain ⟨o, ho⟩ : ∃ o', o' = o := ⟨_, rfl⟩
  rw [← ho]
  clear ho
  obtain ⟨ok, oh, oi, on, okk, ov, ot⟩ := o
  simp only [hval, hcs, opv, opcs] at *
  obtain ⟨p, W, hW, hp, K, KO, bw⟩ := box_ho w (.int .i64 H.od) (.slice A n c) (.int .i64 H.nx) (.int .i64 (tget H 0)) (.int .i64 (tget H 1)) (.int .i64 (tget H 2)) (.int .i64 (tget H 3)) (.slice F m d) (.int .i64 ok) (.int .i64 oh) (.int .i64 oi) (.int .i64 on) (.int .i64 okk) (.int .i64 ov) (.int .i64 ot)
  have S1 := S1 W bw
  go_upto_region 1 with (fail)
  try rw [hW]
  rw [← hp]
  clear hW hp
  obtain ⟨c0, c1, c2, c3, c4, c5, c6, c7⟩ := K.eight
  have KH := Lib.hid K
  have KOH := Lib.hid KO
  have BH := Lib.hid bw
  clear K KO bw
  go_upto_region 3 with (go_at_call 11; refine S1.mono ?_; rintro e w1 ⟨q, rfl, hq, g1⟩; cases q)
  rotate_left
  · go_ret
    exact ⟨rfl, BH.out.trans (g1.below.mono BH.out.size)⟩
  clear S1
  have hS := Lib.hid (hq (by first | rfl | trivial))
  have K1 := KH.out.below g1.below
  have KO1 := KOH.out.below g1.below
  have B1 := Lib.hid (BH.out.trans (g1.below.mono BH.out.size))
  have K1H := Lib.hid K1
  have KO1H := Lib.hid KO1
  clear g1 BH c0 c1 c2 c3 c4 c5 c6 c7 hq KH KOH
  obtain ⟨c0, c1, c2, c3, c4, c5, c6, c7⟩ := K1.eight
  obtain ⟨p0, p1, p2, p3, p4, p5, p6⟩ := KO1.seven
  have S2 := do_heap ⟨A, n, c, F, m, d⟩ H ⟨ok, oh, oi, on, okk, ov, ot⟩ w1 (HR.out.below B1.out) hS.out (HT.out.below B1.out)
  obtain ⟨r1, hr1⟩ : ∃ r1, r1 = doH H ⟨ok, oh, oi, on, okk, ov, ot⟩ := ⟨_, rfl⟩
  have hs1 := Lib.hid (show SmallH r1.1 by rw [hr1]; exact doH_small _)
  rw [← hr1] at S2
  simp only [hval, hcs, opv, opcs] at S2
  have HR1 := Lib.hid hr1
  obtain ⟨x, e1, v1⟩ := r1
  clear K1 KO1 hr1
  go_upto_region 4 with (go_at_call 13; refine S2.mono ?_; rintro e w2 ⟨⟨A2, n2, c2', F2, m2, d2⟩, os2, rfl, o2, b2⟩; simp only [hval, hcs])
  obtain ⟨p2', W2, hW2, hp2, Kx2, Kr2, bw2⟩ := box_two w2 (.int .i64 x.od) (.slice A2 n2 c2') (.int .i64 x.nx) (.int .i64 (tget x 0)) (.int .i64 (tget x 1)) (.int .i64 (tget x 2)) (.int .i64 (tget x 3)) (.slice F2 m2 d2) (.int .i64 e1) (.int .i64 v1)
  rw [hW2, ← hp2]
  have bb2 := b2.trans (bw2.mono b2.size)
  have B2 := Lib.hid (B1.out.trans (bb2.mono B1.out.size))
  have K2 := K1H.out.below bb2
  have K2H := Lib.hid K2
  have KO2 := Lib.hid (KO1H.out.below bb2)
  have KR2 := Lib.hid Kr2
  have KX2 := Lib.hid Kx2
  have O2 := Lib.hid (o2.rd.below bw2)
  clear S2 hW2 hp2 Kx2 Kr2 bw2 b2 bb2 o2 B1 K1H KO1H c0 c1 c2 c3 c4 c5 c6 c7 p0 p1 p2 p3 p4 p5 p6
  obtain ⟨c0, c1, c2, c3, c4, c5, c6, c7⟩ := K2.eight
  have S3 := check_heap ⟨A, n, c, F, m, d⟩ H W2 (HR.out.below B2.out) hS.out (HT.out.below B2.out)
  simp only [hval, hcs] at S3
  clear K2
  have F1 := fun (W : World) (bl : Below W2.heap.size W2 W) => fresh_any W (HT.out.below (B2.out.trans (bl.mono B2.out.size)))
  have D1 := fun (W : World) (bl : Below W2.heap.size W2 W) => does_any W (HT.out.below (B2.out.trans (bl.mono B2.out.size)))
  have HF1 := Lib.hid F1
  have HD1 := Lib.hid D1
  clear F1 D1
  by_cases hR : RightH H
  case neg =>
    rw [chkH_no hR] at S3
    have he1 : e1 = 1 := by
      have h1 := HR1.out
      rw [doH_wrong hR] at h1
      exact congrArg (fun r => r.2.1) h1
    subst he1
    clear hR
    go_wp2_with (first
      | (go_at_call 18; refine S3.mono ?_; rintro e w3 ⟨rfl, b3⟩)
      | (go_at_call 19; refine (HF1.out _ b3).mono ?_; rintro e w4 ⟨rfl, b4⟩; have b34 := b3.trans (b4.mono b3.size); obtain ⟨u0, u1⟩ := (KR2.out.below b34).two))
    go_ret
    exact ⟨rfl, B2.out.trans (b34.mono B2.out.size)⟩
  rw [chkH_yes hR] at S3
  have hkeep := Lib.hid (show _ from doneH_keeps hR ⟨ok, oh, oi, on, okk, ov, ot⟩)
  have hdone := Lib.hid (show (x, e1, v1) = doneH H ⟨ok, oh, oi, on, okk, ov, ot⟩ by rw [HR1.out, doH_right hR])
  have hrx := Lib.hid (show RightH x by
    have h1 := (doneH_right hR ⟨ok, oh, oi, on, okk, ov, ot⟩).1
    rw [← hdone.out] at h1
    exact h1)
  have key := (by
    have h1 := hkeep.out
    rw [← hdone.out] at h1
    simpa using h1 : (x = H ∧ (e1 ≠ 0 → v1 = 0) ∧ (e1 = 0 → ok = 6 ∨ ok = 7 ∨ ok = 8)) ∨ (e1 = 0 ∧ ok = 1 ∧ v1 = H.nx ∧ x.nx = H.nx + 1) ∨ (e1 = 0 ∧ (ok = 2 ∨ ok = 3 ∨ ok = 4 ∨ ok = 5) ∧ v1 = 0 ∧ x.nx = H.nx))
  have Hkey := Lib.hid key
  have hnx := hR.nx
  clear hR HR1 key
  go_upto_region 6 with (go_at_call 18; refine S3.mono ?_; rintro e w3 ⟨rfl, b3⟩)
  clear S3 c0 c1 c2 c3 c4 c5 c6 c7
  have B3 := Lib.hid (B2.out.trans (b3.mono B2.out.size))
  have K3 := Lib.hid (K2H.out.below b3)
  have KO3 := KO2.out.below b3
  have KR3 := Lib.hid (KR2.out.below b3)
  have KX3 := Lib.hid (KX2.out.below b3)
  have O3 := Lib.hid (O2.out.below b3)
  have F1 := Lib.hid fun (W : World) (bl : Below w3.heap.size w3 W) => HF1.out W (b3.trans (bl.mono b3.size))
  have D1 := Lib.hid fun (W : World) (bl : Below w3.heap.size w3 W) => HD1.out W (b3.trans (bl.mono b3.size))
  clear B2 K2H KO2 KR2 KX2 O2 b3 HF1 HD1
  obtain ⟨p0, _⟩ := KO3.seven
  have KO3H := Lib.hid KO3
  clear KO3
  go_cut [7] (fun v wc => v = .bool (decide (ok = 6 ∨ ok = 7 ∨ ok = 8)) ∧ w3 = wc)
  case first =>
    by_cases h6 : ok = 6
    · subst h6
      go_wp2_with fail
      go_meet
      exact ⟨by simp, rfl⟩
    · have q6 : (ok == 6) = false := by simp [h6]
      by_cases h7 : ok = 7
      · subst h7
        go_wp2_with fail
        go_meet
        exact ⟨by simp, rfl⟩
      · have q7 : (ok == 7) = false := by simp [h7]
        by_cases h8 : ok = 8
        · subst h8
          go_wp2_with fail
          go_meet
          exact ⟨by simp, rfl⟩
        · have q8 : (ok == 8) = false := by simp [h8]
          have Hn := Lib.hid (show decide (ok = 6 ∨ ok = 7 ∨ ok = 8) = false from decide_eq_false (by omega))
          clear h6 h7 h8
          go_wp2_with fail
          go_meet
          exact ⟨by rw [Hn.out], rfl⟩
  case rest =>
    obtain ⟨hv7, rfl⟩ := hcut
    obtain ⟨ak, hak⟩ : ∃ ak, ak = decide (ok = 6 ∨ ok = 7 ∨ ok = 8) := ⟨_, rfl⟩
    rw [← hak] at hv7
    have Hak := Lib.hid hak
    subst hv7
    clear hak p0
    obtain ⟨r0, r1⟩ := KR3.out.two
    by_cases hfirst : e1 ≠ 0 ∨ ak = true
    · -- nothing changes
      have hxH : x = H ∧ (e1 = 0 ∨ v1 = 0) := by
        rcases Hkey.out with ⟨h1, h2, _⟩ | ⟨h1, h2, _⟩ | ⟨h1, h2, _⟩
        · refine ⟨h1, ?_⟩
          by_cases q : e1 = 0
          · exact .inl q
          · exact .inr (h2 q)
        · rcases hfirst with q | q
          · exact absurd h1 q
          · rw [Hak.out, decide_eq_true_iff] at q; omega
        · rcases hfirst with q | q
          · exact absurd h1 q
          · rw [Hak.out, decide_eq_true_iff] at q; omega
      have Sm := Lib.hid fun (W : World) (bl : Below w3.heap.size w3 W) => (by
        have := refSameH_any ⟨A2, n2, c2', F2, m2, d2⟩ ⟨A, n, c, F, m, d⟩ x H W (O3.out.below bl) (HR.out.below (B3.out.trans (bl.mono B3.out.size))) hs1.out
        rw [decide_eq_true hxH.1] at this
        simp only [hval, hcs] at this
        exact this : Calls Tryz.prog 15 #[.agg #[.int .i64 x.od, .slice A2 n2 c2', .int .i64 x.nx, .int .i64 (tget x 0), .int .i64 (tget x 1), .int .i64 (tget x 2), .int .i64 (tget x 3), .slice F2 m2 d2], .agg #[.int .i64 H.od, .slice A n c, .int .i64 H.nx, .int .i64 (tget H 0), .int .i64 (tget H 1), .int .i64 (tget H 2), .int .i64 (tget H 3), .slice F m d]] W (Says W (.bool true)))
      have hev := hxH.2
      clear hxH
      by_cases he : e1 = 0
      · subst he
        obtain rfl : ak = true := by simpa using hfirst
        clear hfirst hev
        go_wp2_with (first
          | (go_at_call 19; refine (F1.out _ (Below.refl _ _)).mono ?_; rintro e w4 ⟨rfl, b4⟩)
          | (go_at_call 17; refine (D1.out _ b4).mono ?_; rintro e w5 ⟨rfl, b5'⟩; have b5 := b4.trans (b5'.mono b4.size); obtain ⟨c0, c1, c2, c3, c4, c5, c6, c7⟩ := (K3.out.below b5).eight; obtain ⟨x0, x1, x2, x3, x4, x5, x6, x7⟩ := (KX3.out.below b5).eight)
          | (go_at_call 15; refine (Sm.out _ b5).mono ?_; rintro e w6 ⟨rfl, g6⟩; have b6 := b5.trans (g6.below.mono b5.size); obtain ⟨s0, s1⟩ := (KR3.out.below b6).two))
        go_ret
        exact ⟨by first | rfl | (simp; done), B3.out.trans (b6.mono B3.out.size)⟩
      · obtain rfl : v1 = 0 := hev.resolve_left he
        have q1 : (e1 != 0) = true := by simp [he]
        have q2 : (e1 == 0) = false := by simp [he]
        clear hfirst hev he
        go_wp2_with (first
          | (go_at_call 19; refine (F1.out _ (Below.refl _ _)).mono ?_; rintro e w4 ⟨rfl, b4⟩)
          | (go_at_call 17; refine (D1.out _ b4).mono ?_; rintro e w5 ⟨rfl, b5'⟩; have b5 := b4.trans (b5'.mono b4.size); obtain ⟨c0, c1, c2, c3, c4, c5, c6, c7⟩ := (K3.out.below b5).eight; obtain ⟨x0, x1, x2, x3, x4, x5, x6, x7⟩ := (KX3.out.below b5).eight)
          | (go_at_call 15; refine (Sm.out _ b5).mono ?_; rintro e w6 ⟨rfl, g6⟩; have b6 := b5.trans (g6.below.mono b5.size); obtain ⟨s0, s1⟩ := (KR3.out.below b6).two))
        go_ret
        exact ⟨by first | rfl | (simp; done), B3.out.trans (b6.mono B3.out.size)⟩
    · have he : e1 = 0 := by apply Classical.byContradiction; exact fun q => hfirst (.inl q)
      have ha : ak = false := by cases hq : ak <;> simp_all
      subst he ha
      have hno : ¬ (ok = 6 ∨ ok = 7 ∨ ok = 8) := of_decide_eq_false Hak.out.symm
      obtain ⟨nx, hnxx⟩ : ∃ nx, nx = x.nx := ⟨_, rfl⟩
      have Sc := Lib.hid fun (W : World) (bl : Below w3.heap.size w3 W) => (by
        have := check_heap ⟨A2, n2, c2', F2, m2, d2⟩ x W (O3.out.below bl) hs1.out (HT.out.below (B3.out.trans (bl.mono B3.out.size)))
        rw [chkH_yes hrx.out] at this
        simp only [hval, hcs] at this
        exact this : Calls Tryz.prog 18 #[.agg #[.int .i64 x.od, .slice A2 n2 c2', .int .i64 x.nx, .int .i64 (tget x 0), .int .i64 (tget x 1), .int .i64 (tget x 2), .int .i64 (tget x 3), .slice F2 m2 d2]] W (Tells W (.int .i64 0)))
      rw [← hnxx] at Sc KX3
      obtain ⟨k0, _⟩ := KO3H.out.seven
      clear hfirst
      rcases Hkey.out with ⟨_, _, h3⟩ | ⟨_, rfl, rfl, h4⟩ | ⟨_, h2, rfl, h4⟩
      · exact absurd (h3 rfl) hno
      · have hnx1 : nx = H.nx + 1 := by rw [hnxx, h4]
        subst hnx1
        clear hnxx h4 Hkey hno
        obtain ⟨hn0, hhn⟩ : ∃ hn0, hn0 = H.nx := ⟨_, rfl⟩
        rw [← hhn] at K3 KX3 KR3 Sc hnx ⊢
        clear hhn r0 r1
        obtain ⟨r0, r1⟩ := KR3.out.two
        go_wp2_with (first
          | (go_at_call 19; refine (F1.out _ (Below.refl _ _)).mono ?_; rintro e w4 ⟨rfl, b4⟩)
          | (go_at_call 17; refine (D1.out _ b4).mono ?_; rintro e w5 ⟨rfl, b5'⟩; have b5 := b4.trans (b5'.mono b4.size); obtain ⟨x0, x1, x2, x3, x4, x5, x6, x7⟩ := (KX3.out.below b5).eight)
          | (go_at_call 18; refine (Sc.out _ b5).mono ?_; rintro e w6 ⟨rfl, b6'⟩; have b6 := b5.trans (b6'.mono b5.size); obtain ⟨s0, s1⟩ := (KR3.out.below b6).two; obtain ⟨c0, c1, c2, c3, c4, c5, c6, c7⟩ := (K3.out.below b6).eight; obtain ⟨t0, t1, t2, t3, t4, t5, t6, t7⟩ := (KX3.out.below b6).eight))
        go_ret
        exact ⟨by first | rfl | (simp; done), B3.out.trans (b6.mono B3.out.size)⟩
      · have hnx1 : nx = H.nx := by rw [hnxx, h4]
        have q1 : (ok == 1) = false := by simp; omega
        subst hnx1
        clear hnxx h4 Hkey hno h2
        obtain ⟨hn0, hhn⟩ : ∃ hn0, hn0 = H.nx := ⟨_, rfl⟩
        rw [← hhn] at K3 KX3 Sc hnx ⊢
        clear hhn
        go_wp2_with (first
          | (go_at_call 19; refine (F1.out _ (Below.refl _ _)).mono ?_; rintro e w4 ⟨rfl, b4⟩)
          | (go_at_call 17; refine (D1.out _ b4).mono ?_; rintro e w5 ⟨rfl, b5'⟩; have b5 := b4.trans (b5'.mono b4.size); obtain ⟨x0, x1, x2, x3, x4, x5, x6, x7⟩ := (KX3.out.below b5).eight)
          | (go_at_call 18; refine (Sc.out _ b5).mono ?_; rintro e w6 ⟨rfl, b6'⟩; have b6 := b5.trans (b6'.mono b5.size); obtain ⟨s0, s1⟩ := (KR3.out.below b6).two; obtain ⟨c0, c1, c2, c3, c4, c5, c6, c7⟩ := (K3.out.below b6).eight; obtain ⟨t0, t1, t2, t3, t4, t5, t6, t7⟩ := (KX3.out.below b6).eight))
        go_ret
        exact ⟨by first | rfl | (simp; done), B3.out.trans (b6.mono B3.out.size)⟩
end Go.Proofs.YtkbggbgnnllmjaaGreatDoor

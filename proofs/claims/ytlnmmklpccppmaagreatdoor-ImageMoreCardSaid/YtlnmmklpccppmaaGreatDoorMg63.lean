/-
  A state is right, or is not; it has just these bytes, or is refused; it comes back: the walk of the statement.
-/
import Derived.Test.YtlnmmklpccppmaaGreatDoorMg62
namespace Go.Proofs.YtlnmmklpccppmaaGreatDoor
open Go.RowKit

theorem boolEq_neq (a : Bool) : (a != a) = false := by cases a <;> rfl
set_option maxRecDepth 20000 in
set_option maxHeartbeats 8000000 in
theorem imageStates_walk (s : SSl) (S : St) (w : World) (hT : Tab w) (h : RdT w s S) (hI : IntsS S) : Calls Tryz.prog 4 #[sval S s] w (Holds w) := by
  have g1 := (Below.refl w.heap.size w).alloc (Nat.le_refl _) (.cells (scs S s).toArray 39)
  have K0 := Whole.new w (scs S s).toArray 39
  have S1 := refBigS_any s S _ (h.below g1)
  have HT := Lib.hid hT
  have HR := Lib.hid h
  have HI := Lib.hid hI
  clear hT h hI
  obtain ⟨⟨A, n, c, F, m, d⟩, R, nr, cr⟩ := s
  obtain ⟨H, rs⟩ := S
  simp only [sval, scs, hcs, List.cons_append, List.nil_append] at *
  go_enter Tryz.func4, Tryz.ntmps4
  go_wp2_with fail
  generalize w.alloc (.cells #[.int .i64 H.od, .slice A n c, .int .i64 H.nx, .int .i64 (tget H 0), .int .i64 (tget H 1), .int .i64 (tget H 2), .int .i64 (tget H 3), .slice F m d, .slice R nr cr] 39) = W at g1 K0 S1 ⊢
  refine Calls.mono S1 ?_
  rintro e w1 ⟨q, rfl, hq, gr1⟩
  have b1 := gr1.below
  have B1 := g1.trans (b1.mono g1.size)
  have K1 := K0.below b1
  cases q with
  | true =>
    clear K1 K0 S1
    go_wp2
    go_ret
    exact ⟨rfl, B1⟩
  | false =>
    have hS := Lib.hid (hq rfl)
    have S2 := refOwnS_any ⟨⟨A, n, c, F, m, d⟩, R, nr, cr⟩ ⟨H, rs⟩ w1 (HR.out.below B1) hS.out
    simp only [sval, scs, hcs, List.cons_append, List.nil_append] at S2
    obtain ⟨c0, c1, c2, c3, c4, c5, c6, c7, c8⟩ := K1.nine
    clear S1 K0 hq
    go_wp2_with fail
    refine S2.mono ?_
    rintro e w2 ⟨⟨⟨A2, n2, cc2, F2, m2, d2⟩, R2, nr2, cr2⟩, os2, rfl, O2, b2⟩
    simp only [sval, scs, hcs, List.cons_append, List.nil_append]
    have B2 := B1.trans (b2.mono B1.size)
    have K2 := K1.below b2
    clear S2 c0 c1 c2 c3 c4 c5 c6 c7 c8 K1 b1 gr1
    have gX := (Below.refl w2.heap.size w2).alloc (Nat.le_refl _) (.cells #[.int .i64 H.od, .slice A2 n2 cc2, .int .i64 H.nx, .int .i64 (tget H 0), .int .i64 (tget H 1), .int .i64 (tget H 2), .int .i64 (tget H 3), .slice F2 m2 d2, .slice R2 nr2 cr2] 39)
    have KX := Whole.new w2 #[.int .i64 H.od, .slice A2 n2 cc2, .int .i64 H.nx, .int .i64 (tget H 0), .int .i64 (tget H 1), .int .i64 (tget H 2), .int .i64 (tget H 3), .slice F2 m2 d2, .slice R2 nr2 cr2] 39
    have K3 := K2.below gX
    have B3 := B2.trans (gX.mono B2.size)
    have R3 := O2.rd.below gX
    obtain ⟨c0, c1, c2, c3, c4, c5, c6, c7, c8⟩ := K3.nine
    clear O2
    go_upto_region 4 with (fail)
    generalize w2.alloc (.cells #[.int .i64 H.od, .slice A2 n2 cc2, .int .i64 H.nx, .int .i64 (tget H 0), .int .i64 (tget H 1), .int .i64 (tget H 2), .int .i64 (tget H 3), .slice F2 m2 d2, .slice R2 nr2 cr2] 39) = W3 at gX KX K3 B3 R3 c0 c1 c2 c3 c4 c5 c6 c7 c8 ⊢
    clear K2 B2 b2 gX
    have S4 := checkS_any ⟨⟨A, n, c, F, m, d⟩, R, nr, cr⟩ ⟨H, rs⟩ W3 (HR.out.below B3) hS.out (HT.out.below B3)
    simp only [sval, scs, hcs, List.cons_append, List.nil_append] at S4
    obtain ⟨cc, hcc⟩ : ∃ cc, cc = chkS ⟨H, rs⟩ := ⟨_, rfl⟩
    rw [← hcc] at S4
    have Hcc := Lib.hid hcc
    clear hcc
    go_wp2_with fail
    refine S4.mono ?_
    rintro e wc ⟨rfl, bc⟩
    have BC := B3.trans (bc.mono B3.size)
    have KC := K3.below bc
    have KXC := KX.below bc
    have RC := R3.below bc
    clear S4 c0 c1 c2 c3 c4 c5 c6 c7 c8 K3 KX R3 B3 bc
    obtain ⟨c0, c1, c2, c3, c4, c5, c6, c7, c8⟩ := KC.nine
    have S3 := putState_any ⟨⟨A, n, c, F, m, d⟩, R, nr, cr⟩ ⟨H, rs⟩ wc (HR.out.below BC) hS.out (HT.out.below BC) HI.out
    simp only [sval, scs, hcs, List.cons_append, List.nil_append] at S3
    go_wp2_with fail
    refine S3.mono ?_
    rintro e w4 ⟨b4, hput⟩
    have B4 := BC.trans (b4.mono BC.size)
    have K4 := KC.below b4
    have KX4 := KXC.below b4
    have R4 := RC.below b4
    have S4 := refPutState_any ⟨⟨A2, n2, cc2, F2, m2, d2⟩, R2, nr2, cr2⟩ ⟨H, rs⟩ w4 R4 hS.out HI.out
    simp only [sval, scs, hcs, List.cons_append, List.nil_append] at S4
    clear c0 c1 c2 c3 c4 c5 c6 c7 c8
    obtain ⟨c0, c1, c2, c3, c4, c5, c6, c7, c8⟩ := KX4.nine
    clear S3 KC KXC RC BC
    rcases hput with ⟨hR, v4, rfl, o4⟩ | ⟨hR, rfl⟩
    · obtain ⟨Y, hY⟩ : ∃ Y, Y = encS ⟨H, rs⟩ := ⟨_, rfl⟩
      have hIm : ImS ⟨H, rs⟩ := ⟨⟨hR.1, HR.out.hp.tp, HI.out.1⟩, hR.2, HI.out.2⟩
      have hyl := Lib.hid (encS_size hIm)
      have HIm := Lib.hid hIm
      rw [← hY] at o4 hyl
      have hy := Lib.hid hY
      have HRt := Lib.hid hR
      have hc0 : cc = 0 := Hcc.out.trans (chkS_yes hR)
      subst hc0
      clear hY hR hIm Hcc
      obtain ⟨A4, cc4, rfl, _, _, r4⟩ := o4.shape
      clear o4
      go_wp2_with fail
      refine S4.mono ?_
      rintro e w5 ⟨b5, hput5⟩
      obtain ⟨v5, rfl, o5⟩ : ∃ v, e = .returned (.tuple #[v, .int .i64 0]) ∧ Own 5 w5 w4.heap.size v Y := by
        rw [hy.out]
        rcases hput5 with ⟨_, h⟩ | ⟨h, _⟩
        · exact h
        · exact absurd HRt.out h
      clear hput5 S4
      have B5 := B4.trans (b5.mono B4.size)
      have K5 := K4.below b5
      have KX5 := KX4.below b5
      have r5 := r4.below b5
      have R5 := R4.below b5
      obtain ⟨A5, cc5, rfl, _, _, q5⟩ := o5.shape
      have k1 := r5.conv (P := Tryz.prog) cc4 29 5 9 Tryz.underlying29 Tryz.underlying5 Tryz.underlying9
      have k2 := q5.conv (P := Tryz.prog) cc5 29 5 9 Tryz.underlying29 Tryz.underlying5 Tryz.underlying9
      have S5 := refRightS_any ⟨⟨A2, n2, cc2, F2, m2, d2⟩, R2, nr2, cr2⟩ ⟨H, rs⟩ w5 R5 hS.out
      rw [decide_eq_true HRt.out] at S5
      simp only [sval, scs, hcs, List.cons_append, List.nil_append] at S5
      clear c0 c1 c2 c3 c4 c5 c6 c7 c8
      obtain ⟨c0, c1, c2, c3, c4, c5, c6, c7, c8⟩ := KX5.nine
      clear o5 b5 B4 K4 KX4 r4 R4
      go_wp2_with fail
      refine S5.mono ?_
      rintro e w5' ⟨rfl, b5'⟩
      have B5' := B5.trans (b5'.mono B5.size)
      have K5' := K5.below b5'
      have KX5' := KX5.below b5'
      have r5' := r5.below b5'
      have R5' := R5.below b5'
      clear S5 c0 c1 c2 c3 c4 c5 c6 c7 c8 k1 k2
      obtain ⟨c0, c1, c2, c3, c4, c5, c6, c7, c8⟩ := K5'.nine
      obtain ⟨u0, u1, u2, u3, u4, u5, u6, u7, u8⟩ := KX5'.nine
      have S6 := refSameS_any ⟨⟨A, n, c, F, m, d⟩, R, nr, cr⟩ ⟨⟨A2, n2, cc2, F2, m2, d2⟩, R2, nr2, cr2⟩ ⟨H, rs⟩ ⟨H, rs⟩ w5' (HR.out.below B5') R5' hS.out
      rw [decide_eq_true rfl] at S6
      simp only [sval, scs, hcs, List.cons_append, List.nil_append] at S6
      clear B5 K5 KX5 r5 R5 q5 b5'
      go_wp2_with fail
      refine S6.mono ?_
      rintro e w6 ⟨rfl, g6⟩
      have r6 := r5'.below g6.below
      have B6 := B5'.trans (g6.below.mono B5'.size)
      have K6 := K5'.below g6.below
      clear S6 K5' KX5' r5' R5' c0 c1 c2 c3 c4 c5 c6 c7 c8 u0 u1 u2 u3 u4 u5 u6 u7 u8 B5'
      have S7 := getState_any A4 Y.length cc4 Y w6 r6 (Nat.le_trans hyl.out (by decide)) (HT.out.below B6)
      go_wp2_with fail
      refine S7.mono ?_
      rintro e w7 ⟨b7, hgot⟩
      obtain ⟨s7, os7, rfl, O7⟩ : ∃ s os, e = .returned (.tuple #[sval ⟨H, rs⟩ s, .int .i64 0]) ∧ OwnSt w7 w6.heap.size s os ⟨H, rs⟩ := by
        have hg0 : GetsS Y (some ⟨H, rs⟩) := ⟨HIm.out, hy.out.symm⟩
        rcases hgot with ⟨G, s, os, he, ho, hg⟩ | ⟨_, hg⟩
        · have := hg0.uniq hg
          injection this with this
          subst this
          exact ⟨s, os, he, ho⟩
        · cases hg0.uniq hg
      obtain ⟨⟨A7, n7, c7, F7, m7, d7⟩, R7, nr7, cr7⟩ := s7
      have B7 := B6.trans (b7.mono B6.size)
      have K7 := K6.below b7
      simp only [sval, scs, hcs, List.cons_append, List.nil_append]
      have gY := (Below.refl w7.heap.size w7).alloc (Nat.le_refl _) (.cells #[.int .i64 H.od, .slice A7 n7 c7, .int .i64 H.nx, .int .i64 (tget H 0), .int .i64 (tget H 1), .int .i64 (tget H 2), .int .i64 (tget H 3), .slice F7 m7 d7, .slice R7 nr7 cr7] 39)
      have KY := Whole.new w7 #[.int .i64 H.od, .slice A7 n7 c7, .int .i64 H.nx, .int .i64 (tget H 0), .int .i64 (tget H 1), .int .i64 (tget H 2), .int .i64 (tget H 3), .slice F7 m7 d7, .slice R7 nr7 cr7] 39
      have R8 := O7.rd.below gY
      have B8 := B7.trans (gY.mono B7.size)
      have K8 := K7.below gY
      clear hgot O7 K6 K7 B6 B7 b7 g6 S7 r6
      go_wp2_with fail
      generalize w7.alloc (.cells #[.int .i64 H.od, .slice A7 n7 c7, .int .i64 H.nx, .int .i64 (tget H 0), .int .i64 (tget H 1), .int .i64 (tget H 2), .int .i64 (tget H 3), .slice F7 m7 d7, .slice R7 nr7 cr7] 39) = W8 at gY KY R8 B8 K8 ⊢
      refine (states_holds W8 (HT.out.below B8)).mono ?_
      rintro e w9 ⟨rfl, b9⟩
      have B9 := B8.trans (b9.mono B8.size)
      have K9 := K8.below b9
      have KY9 := KY.below b9
      have S9 := refSameS_any ⟨⟨A7, n7, c7, F7, m7, d7⟩, R7, nr7, cr7⟩ ⟨⟨A, n, c, F, m, d⟩, R, nr, cr⟩ ⟨H, rs⟩ ⟨H, rs⟩ w9 (R8.below b9) (HR.out.below B9) hS.out
      rw [decide_eq_true rfl] at S9
      simp only [sval, scs, hcs, List.cons_append, List.nil_append] at S9
      obtain ⟨c0, c1, c2, c3, c4, c5, c6, c7, c8⟩ := K9.nine
      obtain ⟨u0, u1, u2, u3, u4, u5, u6, u7, u8⟩ := KY9.nine
      clear K8 KY R8 B8 b9 gY K9 KY9
      go_wp2_with fail
      refine S9.mono ?_
      rintro e w10 ⟨rfl, g10⟩
      have B10 := Lib.hid (B9.trans (g10.below.mono B9.size))
      clear S9 c0 c1 c2 c3 c4 c5 c6 c7 c8 u0 u1 u2 u3 u4 u5 u6 u7 u8 B9 g10
      go_wp2
      go_ret
      exact ⟨rfl, B10.out⟩
    · have HRt := Lib.hid hR
      have hc0 : cc = 60 := Hcc.out.trans (chkS_no hR)
      subst hc0
      clear hR Hcc
      go_wp2_with fail
      refine S4.mono ?_
      rintro e w5 ⟨b5, hput5⟩
      obtain rfl : e = .returned (.tuple #[.slice none 0 0, .int .i64 60]) := by
        rcases hput5 with ⟨h, _⟩ | ⟨_, h⟩
        · exact absurd h HRt.out
        · exact h
      clear hput5 S4
      have B5 := B4.trans (b5.mono B4.size)
      have K5 := K4.below b5
      have KX5 := KX4.below b5
      have R5 := R4.below b5
      have k1 := (Rd.nil (w := w5) (A := none)).conv (P := Tryz.prog) 0 29 5 9 Tryz.underlying29 Tryz.underlying5 Tryz.underlying9
      have S5 := refRightS_any ⟨⟨A2, n2, cc2, F2, m2, d2⟩, R2, nr2, cr2⟩ ⟨H, rs⟩ w5 R5 hS.out
      rw [decide_eq_false HRt.out] at S5
      simp only [sval, scs, hcs, List.cons_append, List.nil_append] at S5
      clear c0 c1 c2 c3 c4 c5 c6 c7 c8
      obtain ⟨c0, c1, c2, c3, c4, c5, c6, c7, c8⟩ := KX5.nine
      clear b5 B4 K4 KX4 R4
      go_wp2_with fail
      refine S5.mono ?_
      rintro e w5' ⟨rfl, b5'⟩
      have B5' := B5.trans (b5'.mono B5.size)
      have K5' := K5.below b5'
      have KX5' := KX5.below b5'
      have R5' := R5.below b5'
      clear S5 c0 c1 c2 c3 c4 c5 c6 c7 c8 k1
      obtain ⟨c0, c1, c2, c3, c4, c5, c6, c7, c8⟩ := K5'.nine
      obtain ⟨u0, u1, u2, u3, u4, u5, u6, u7, u8⟩ := KX5'.nine
      have S6 := refSameS_any ⟨⟨A, n, c, F, m, d⟩, R, nr, cr⟩ ⟨⟨A2, n2, cc2, F2, m2, d2⟩, R2, nr2, cr2⟩ ⟨H, rs⟩ ⟨H, rs⟩ w5' (HR.out.below B5') R5' hS.out
      rw [decide_eq_true rfl] at S6
      simp only [sval, scs, hcs, List.cons_append, List.nil_append] at S6
      clear B5 K5 KX5 R5 b5'
      go_wp2_with fail
      refine S6.mono ?_
      rintro e w6 ⟨rfl, g6⟩
      have B6 := B5'.trans (g6.below.mono B5'.size)
      clear S6 K5' KX5' R5' c0 c1 c2 c3 c4 c5 c6 c7 c8 u0 u1 u2 u3 u4 u5 u6 u7 u8 B5'
      go_wp2_with fail
      refine (states_holds w6 (HT.out.below B6)).mono ?_
      rintro e w9 ⟨rfl, b9⟩
      have B10 := Lib.hid (B6.trans (b9.mono B6.size))
      clear B6 b9 g6
      go_wp2
      go_ret
      exact ⟨rfl, B10.out⟩
end Go.Proofs.YtlnmmklpccppmaaGreatDoor

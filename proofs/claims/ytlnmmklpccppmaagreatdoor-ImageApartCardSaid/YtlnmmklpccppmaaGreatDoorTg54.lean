/-
  GetState, and what the statements ask of states at one of them.
  A state that came in, as a row's frame opens it. Plain lemmas.
-/
import Derived.Test.YtlnmmklpccppmaaGreatDoorTg53
import Derived.Test.YtlnmmklpccppmaaGreatDoorTg50
import Derived.Test.YtlnmmklpccppmaaGreatDoorTg46
import Derived.Test.YtlnmmklpccppmaaGreatDoorTg23
import Derived.Test.YtlnmmklpccppmaaGreatDoorTg48
import Derived.Test.YtlnmmklpccppmaaGreatDoorTg47
namespace Go.Proofs.YtlnmmklpccppmaaGreatDoor
open Go.RowKit
set_option maxHeartbeats 2000000 in
theorem getState_any (A : Option Addr) (n c : Nat) (b : List UInt8) (w : World) (hb : Rd w A n b) (hn : n ≤ 70368744177664) (hT : Tab w) :
    Calls Tryz.prog 24 #[.slice A n c] w (GotS w b) := by
  go_enter Tryz.func24, Tryz.ntmps24
  go_wp2_with fail
  have KR := Whole.new w #[.int .i64 0, .slice none 0 0, .int .i64 0, .int .i64 0, .int .i64 0, .int .i64 0, .int .i64 0, .slice none 0 0, .slice none 0 0] 39
  have B0 := (Below.refl w.heap.size w).alloc (Nat.le_refl _) (.cells #[.int .i64 0, .slice none 0 0, .int .i64 0, .int .i64 0, .int .i64 0, .int .i64 0, .int .i64 0, .slice none 0 0, .slice none 0 0] 39)
  generalize w.alloc (.cells #[.int .i64 0, .slice none 0 0, .int .i64 0, .int .i64 0, .int .i64 0, .int .i64 0, .int .i64 0, .slice none 0 0, .slice none 0 0] 39) = W at KR B0 ⊢
  refine (wholeS_any A n c b W (hb.below B0) hn (hT.below B0)).mono ?_
  rintro e w1 ⟨hB, he⟩
  have KR1 := KR.below hB
  have B1 := B0.trans (hB.mono B0.size)
  have hlt := KR.lt
  rcases he with ⟨⟨H, rs⟩, ⟨⟨Ao, no, co, AF, nF, cF⟩, AR, nR, cR⟩, os, rfl, O1, hG⟩ | ⟨rfl, hG⟩
  · have Hg := Lib.hid hG
    have p0 := KR1.cell 0
    have z0 := KR1.free 0
    have p1 := KR1.cell 1
    have z1 := KR1.free 1
    have p2 := KR1.cell 2
    have z2 := KR1.free 2
    have p3 := KR1.cell 3
    have z3 := KR1.free 3
    have p4 := KR1.cell 4
    have z4 := KR1.free 4
    have p5 := KR1.cell 5
    have z5 := KR1.free 5
    have p6 := KR1.cell 6
    have z6 := KR1.free 6
    have p7 := KR1.cell 7
    have z7 := KR1.free 7
    have p8 := KR1.cell 8
    have z8 := KR1.free 8
    have G7 := (grown_trans (grown_trans (grown_trans (grown_trans (grown_trans (grown_trans (grown_trans (grown_trans (grown_set w1 w.heap.size 0 (.int .i64 H.od)) (grown_set _ w.heap.size 1 (.slice Ao no co))) (grown_set _ w.heap.size 2 (.int .i64 H.nx))) (grown_set _ w.heap.size 3 (.int .i64 (tget H 0)))) (grown_set _ w.heap.size 4 (.int .i64 (tget H 1)))) (grown_set _ w.heap.size 5 (.int .i64 (tget H 2)))) (grown_set _ w.heap.size 6 (.int .i64 (tget H 3)))) (grown_set _ w.heap.size 7 (.slice AF nF cF))) (grown_set _ w.heap.size 8 (.slice AR nR cR)))
    have K7 := (((((((((KR1.set 0 (.int .i64 H.od)).set 1 (.slice Ao no co)).set 2 (.int .i64 H.nx)).set 3 (.int .i64 (tget H 0))).set 4 (.int .i64 (tget H 1))).set 5 (.int .i64 (tget H 2))).set 6 (.int .i64 (tget H 3))).set 7 (.slice AF nF cF)).set 8 (.slice AR nR cR))
    have O7 := (O1.grownI G7 hlt).mono (base' := w.heap.size) (Nat.le_of_lt hlt)
    have H7 := Lib.hid (And.intro K7 (And.intro (below_grown B1 G7 B1.size (Nat.le_refl _)) O7))
    clear K7 G7 O7 O1 KR KR1 B0 B1 hB hG
    simp only [sval, scs, hcs, List.cons_append, List.nil_append]
    go_wp2
    refine bodyPost_ret (results_c2 rfl _ _ _ _ rfl H7.out.1 Tryz.underlying39 (by kernel_rfl)) rfl ?_
    exact ⟨H7.out.2.1, .inl ⟨⟨H, rs⟩, ⟨⟨Ao, no, co, AF, nF, cF⟩, AR, nR, cR⟩, os, rfl, H7.out.2.2, Hg.out⟩⟩
  · have Hg := Lib.hid hG
    have p0 := KR1.cell 0
    have z0 := KR1.free 0
    have p1 := KR1.cell 1
    have z1 := KR1.free 1
    have p2 := KR1.cell 2
    have z2 := KR1.free 2
    have p3 := KR1.cell 3
    have z3 := KR1.free 3
    have p4 := KR1.cell 4
    have z4 := KR1.free 4
    have p5 := KR1.cell 5
    have z5 := KR1.free 5
    have p6 := KR1.cell 6
    have z6 := KR1.free 6
    have p7 := KR1.cell 7
    have z7 := KR1.free 7
    have p8 := KR1.cell 8
    have z8 := KR1.free 8
    have G7 := (grown_trans (grown_trans (grown_trans (grown_trans (grown_trans (grown_trans (grown_trans (grown_trans (grown_set w1 w.heap.size 0 (.int .i64 0)) (grown_set _ w.heap.size 1 (.slice none 0 0))) (grown_set _ w.heap.size 2 (.int .i64 0))) (grown_set _ w.heap.size 3 (.int .i64 0))) (grown_set _ w.heap.size 4 (.int .i64 0))) (grown_set _ w.heap.size 5 (.int .i64 0))) (grown_set _ w.heap.size 6 (.int .i64 0))) (grown_set _ w.heap.size 7 (.slice none 0 0))) (grown_set _ w.heap.size 8 (.slice none 0 0)))
    have K7 := (((((((((KR1.set 0 (.int .i64 0)).set 1 (.slice none 0 0)).set 2 (.int .i64 0)).set 3 (.int .i64 0)).set 4 (.int .i64 0)).set 5 (.int .i64 0)).set 6 (.int .i64 0)).set 7 (.slice none 0 0)).set 8 (.slice none 0 0))
    have H7 := Lib.hid (And.intro K7 (below_grown B1 G7 B1.size (Nat.le_refl _)))
    clear K7 G7 KR KR1 B0 B1 hB hG
    simp only [zst]
    go_wp2
    refine bodyPost_ret (results_c2 rfl _ _ _ _ rfl H7.out.1 Tryz.underlying39 (by kernel_rfl)) rfl ?_
    exact ⟨H7.out.2, .inr ⟨rfl, Hg.out⟩⟩
def stS : St := ⟨newH 3, [⟨1, 2, 0, -3⟩]⟩
theorem imS_st : ImS stS := ⟨imH_new, by decide, fun r hr => by rw [List.mem_singleton.1 hr]; exact ⟨by decide, by decide⟩⟩
theorem gets_st : GetsS (encS stS) (some stS) := ⟨imS_st, rfl⟩
theorem small_st : SmallS stS := ⟨rightI_small (right_newH (by omega)), by decide⟩
theorem wrong_st0 : ¬ RightS ⟨zeroH, []⟩ := fun h => wrong_zeroH h.1
theorem encS_st_len : (encS stS).length = 56 := by decide +kernel
set_option maxRecDepth 20000 in
set_option maxHeartbeats 4000000 in
theorem states_holds (w : World) (hT : Tab w) : Calls Tryz.prog 23 #[] w (Holds w) := by
  have HT := Lib.hid hT
  clear hT
  go_enter Tryz.func23, Tryz.ntmps23
  go_wp2_with fail
  refine (new_heap 3 w).mono ?_
  rintro e w1 ⟨⟨A1, n1, c1, F1, m1, d1⟩, rfl, O1, b1⟩
  rw [show newR 3 = newH 3 from rfl] at O1
  rw [show newR 3 = newH 3 from rfl, show newE 3 = 0 from rfl]
  have R1 := O1.rd
  simp only [hval, hcs, newH, tget, List.getD_cons_zero, List.getD_cons_succ]
  go_upto_region 2 with (fail)
  have bX := (Below.refl w1.heap.size w1).alloc (Nat.le_refl _) (.cells #[.int .i64 3, .slice A1 n1 c1, .int .i64 1, .int .i64 0, .int .i64 0, .int .i64 0, .int .i64 0, .slice F1 m1 d1] 26)
  have KX := Whole.new w1 #[.int .i64 3, .slice A1 n1 c1, .int .i64 1, .int .i64 0, .int .i64 0, .int .i64 0, .int .i64 0, .slice F1 m1 d1] 26
  have B2 := b1.trans (bX.mono b1.size)
  have R2 := R1.below bX
  generalize w1.alloc (.cells #[.int .i64 3, .slice A1 n1 c1, .int .i64 1, .int .i64 0, .int .i64 0, .int .i64 0, .int .i64 0, .slice F1 m1 d1] 26) = W2 at bX B2 R2 KX ⊢
  have bR := (Below.refl W2.heap.size W2).alloc (Nat.le_refl _) (.cells #[.int .i64 1, .int .i64 2, .int .i64 0, .int .i64 (-3)] 88)
  have bS := (Below.refl W2.heap.size W2).alloc (Nat.le_refl _) (.cells #[.int .i64 1, .int .i64 2, .int .i64 0, .int .i64 (-3)] 88) |>.alloc bR.size (.cells #[.int .i64 3, .slice A1 n1 c1, .int .i64 1, .int .i64 0, .int .i64 0, .int .i64 0, .int .i64 0, .slice F1 m1 d1, .slice (some ⟨W2.heap.size, 0, none⟩) 1 1] 39)
  have KS := Whole.new (W2.alloc (.cells #[.int .i64 1, .int .i64 2, .int .i64 0, .int .i64 (-3)] 88)) #[.int .i64 3, .slice A1 n1 c1, .int .i64 1, .int .i64 0, .int .i64 0, .int .i64 0, .int .i64 0, .slice F1 m1 d1, .slice (some ⟨W2.heap.size, 0, none⟩) 1 1] 39
  have RR := (RdW.one W2 ⟨1, 2, 0, -3⟩ #[.int .i64 1, .int .i64 2, .int .i64 0, .int .i64 (-3)] rfl).below ((Below.refl (W2.alloc (.cells #[.int .i64 1, .int .i64 2, .int .i64 0, .int .i64 (-3)] 88)).heap.size (W2.alloc (.cells #[.int .i64 1, .int .i64 2, .int .i64 0, .int .i64 (-3)] 88))).alloc (Nat.le_refl _) (.cells #[.int .i64 3, .slice A1 n1 c1, .int .i64 1, .int .i64 0, .int .i64 0, .int .i64 0, .int .i64 0, .slice F1 m1 d1, .slice (some ⟨W2.heap.size, 0, none⟩) 1 1] 39))
  rw [show (W2.alloc (.cells #[.int .i64 1, .int .i64 2, .int .i64 0, .int .i64 (-3)] 88)).heap.size = W2.heap.size + 1 by simp] at KS
  obtain ⟨k0, k1, k2, k3, k4, k5, k6, k7⟩ := KX.eight
  clear KX R1 O1 b1
  go_upto_region 3 with (fail)
  clear k0 k1 k2 k3 k4 k5 k6 k7
  obtain ⟨p, hp⟩ : ∃ p, p = W2.heap.size + 1 := ⟨_, rfl⟩
  have B3 := B2.trans (bS.mono B2.size)
  have RT : RdT _ ⟨⟨A1, n1, c1, F1, m1, d1⟩, some ⟨W2.heap.size, 0, none⟩, 1, 1⟩ stS := ⟨R2.below bS, RR⟩
  obtain ⟨pr, hpr⟩ : ∃ pr, pr = W2.heap.size := ⟨_, rfl⟩
  rw [← hpr] at bS KS RT B3 ⊢
  generalize (W2.alloc (.cells _ 88)).alloc (.cells _ 39) = W3 at bS KS RT B3 ⊢
  obtain ⟨k0, k1, k2, k3, k4, k5, k6, k7, k8⟩ := KS.nine
  have S3 := putState_any ⟨⟨A1, n1, c1, F1, m1, d1⟩, some ⟨pr, 0, none⟩, 1, 1⟩ stS W3 RT small_st (HT.out.below B3) ⟨(fun x hx => by cases hx), imS_st.ints⟩
  simp only [sval, scs, hcs, stS, newH, tget, List.getD_cons_zero, List.getD_cons_succ, List.cons_append, List.nil_append] at S3
  have HRT := Lib.hid RT
  have HKS := Lib.hid KS
  clear hp hpr RR R2 bR bX RT KS bS B2
  go_wp2_with fail
  refine S3.mono ?_
  rintro e w4 ⟨b4, hput⟩
  obtain ⟨v4, rfl, o4⟩ : ∃ v, e = .returned (.tuple #[v, .int .i64 0]) ∧ Own 5 w4 W3.heap.size v (encS stS) := by
    rcases hput with ⟨_, h⟩ | ⟨h, _⟩
    · exact h
    · exact absurd imS_st.right h
  obtain ⟨Ab, cb, rfl, _, _, rb⟩ := o4.shapeN encS_st_len
  have B4 := B3.trans (b4.mono B3.size)
  have S5 := getState_any Ab 56 cb (encS stS) w4 rb (by omega) (HT.out.below B4)
  have HRT4 := Lib.hid (HRT.out.below b4)
  have HKS4 := Lib.hid (HKS.out.below b4)
  clear hput S3 k0 k1 k2 k3 k4 k5 k6 k7 k8 o4 rb HRT HKS B3 b4
  go_wp2_with fail
  refine S5.mono ?_
  rintro e w5 ⟨b5, hgot⟩
  obtain ⟨⟨⟨A5, n5, c5, F5, m5, d5⟩, R5, nr5, cr5⟩, os5, rfl, O5⟩ : ∃ s os, e = .returned (.tuple #[sval stS s, .int .i64 0]) ∧ OwnSt w5 w4.heap.size s os stS := by
    rcases hgot with ⟨G, s, os, he, ho, hg⟩ | ⟨_, hg⟩
    · have := gets_st.uniq hg
      injection this with this
      subst this
      exact ⟨s, os, he, ho⟩
    · cases gets_st.uniq hg
  have B5 := B4.trans (b5.mono B4.size)
  have hr5 := O5.rd.rs
  simp only [stS] at hr5
  have hn5 : nr5 = 1 := hr5.len.symm
  subst hn5
  obtain ⟨br, offr, xr, rfl, hbr, hxr, z0, z1, z2, z3⟩ := hr5.get (j := 0) (by omega)
  simp at hxr
  subst hxr
  simp only [sval, scs, hcs, stS, newH, tget, List.getD_cons_zero, List.getD_cons_succ, List.cons_append, List.nil_append]
  have HRT5 := Lib.hid (HRT4.out.below b5)
  have HKS5 := Lib.hid (HKS4.out.below b5)
  clear hgot S5 hr5 O5 HRT4 HKS4 b5 B4
  have gY := (Below.refl w5.heap.size w5).alloc (Nat.le_refl _) (.cells #[.int .i64 3, .slice A5 n5 c5, .int .i64 1, .int .i64 0, .int .i64 0, .int .i64 0, .int .i64 0, .slice F5 m5 d5, .slice (some ⟨br, offr, none⟩) 1 cr5] 39)
  have KY := Whole.new w5 #[.int .i64 3, .slice A5 n5 c5, .int .i64 1, .int .i64 0, .int .i64 0, .int .i64 0, .int .i64 0, .slice F5 m5 d5, .slice (some ⟨br, offr, none⟩) 1 cr5] 39
  have B6 := B5.trans (gY.mono B5.size)
  have y3 := (gY.cell (p := ⟨br, offr + 0 * 4 + 3, none⟩) hbr).trans z3
  simp only [Nat.zero_mul, Nat.add_zero] at y3
  have HRT6 := Lib.hid (HRT5.out.below gY)
  have HKS6 := Lib.hid (HKS5.out.below gY)
  go_upto_region 5 with (fail)
  generalize w5.alloc (.cells _ 39) = W6 at gY KY B6 y3 HRT6 HKS6 ⊢
  obtain ⟨k0, k1, k2, k3, k4, k5, k6, k7, k8⟩ := HKS6.out.nine
  obtain ⟨e0, e1, e2, e3, e4, e5, e6, e7, e8⟩ := KY.nine
  have S7 := checkS_any ⟨⟨A1, n1, c1, F1, m1, d1⟩, some ⟨pr, 0, none⟩, 1, 1⟩ stS W6 HRT6.out small_st (HT.out.below B6)
  rw [chkS_yes imS_st.right] at S7
  simp only [sval, scs, hcs, stS, newH, tget, List.getD_cons_zero, List.getD_cons_succ, List.cons_append, List.nil_append] at S7
  clear gY KY z0 z1 z2 z3 B5 HRT5 HKS5 HRT6 HKS6 hbr
  go_wp2_with fail
  refine S7.mono ?_
  rintro e w7 ⟨rfl, b7⟩
  have B7 := B6.trans (b7.mono B6.size)
  have S8 := checkS_any ⟨⟨none, 0, 0, none, 0, 0⟩, none, 0, 0⟩ ⟨zeroH, []⟩ w7 ⟨⟨RdO.nil, RdS.nil, rfl, by simp [zeroH]⟩, RdW.nil⟩ ⟨smallI_zero, by simp⟩ (HT.out.below B7)
  rw [chkS_no wrong_st0] at S8
  simp only [sval, scs, hcs, zeroH, tget, List.getD_cons_zero, List.getD_cons_succ, List.cons_append, List.nil_append] at S8
  clear S7 k0 k1 k2 k3 k4 k5 k6 k7 k8 e0 e1 e2 e3 e4 e5 e6 e7 e8 y3 B6 b7
  go_wp2_with fail
  refine S8.mono ?_
  rintro e w8 ⟨rfl, b8⟩
  have B8 := Lib.hid (B7.trans (b8.mono B7.size))
  clear S8 B7 b8
  go_wp2
  go_ret
  exact ⟨rfl, B8.out⟩
end Go.Proofs.YtlnmmklpccppmaaGreatDoor
namespace Go.Proofs.YtlnmmklpccppmaaGreatDoor
open Go.RowKit Go.ChangeShapes Go.WideShapes Go.Deep
section
variable {H : Type} {enc : TypeId × Value → H} {w : World}
theorem trod_fields3 {P : Program} {b0 : Nat} {sp : Nat → Bool} {hd : Bool} {t : TypeId} {f0 f1 f2 : Field} {cs : List Value} {fuel : Nat} {x : DataW H × List MemPlace} (ht : P.underlying t = some (.struct #[f0, f1, f2])) (h : DataW.trod enc P w b0 sp hd fuel t cs = some x) :
    ∃ n y0 y1 y2, cs.length = P.cellsOf t ∧ DataW.trod enc P w b0 sp hd n f0.type ((cs.drop f0.offset).take (P.cellsOf f0.type)) = some y0 ∧ DataW.trod enc P w b0 sp hd n f1.type ((cs.drop f1.offset).take (P.cellsOf f1.type)) = some y1 ∧ DataW.trod enc P w b0 sp hd n f2.type ((cs.drop f2.offset).take (P.cellsOf f2.type)) = some y2 := by
  obtain ⟨xs, n, _, _, hlen, hxl, hg⟩ := DataW.trod_struct ht h
  have hxl2 : xs.length = 3 := hxl
  obtain ⟨y0, y1, y2, rfl⟩ : ∃ a b c, xs = [a, b, c] := by
    match xs, hxl2 with
    | [a, b, c], _ => exact ⟨a, b, c, rfl⟩
  exact ⟨n, y0, y1, y2, hlen, hg 0 f0 rfl, hg 1 f1 rfl, hg 2 f2 rfl⟩
/-- Four cells that came in are a row. -/
theorem row_open {cs : List Value} {fuel : Nat} {x : DataW H × List MemPlace} (h : DataW.trod enc Tryz.prog w 0 (fun _ => true) true fuel 88 cs = some x) :
    ∃ y : Rw, cs = rc4 y ∧ IsInt y.va := by
  have hI : Tryz.prog.cellsOf 3 = 1 := by kernel_rfl
  have hE : Tryz.prog.cellsOf 30 = 1 := by kernel_rfl
  have hB : Tryz.prog.cellsOf 59 = 2 := by kernel_rfl
  have hO : Tryz.prog.cellsOf 88 = 4 := by kernel_rfl
  obtain ⟨n, y0, y1, y2, hlen, g0, g1, g2⟩ := trod_fields3 Tryz.underlying88 h
  rw [hO] at hlen
  obtain ⟨c0, c1, c2, c3, rfl⟩ := list4 hlen
  simp only [hI, hB, List.drop_zero, List.drop_succ_cons, List.take_succ_cons, List.take_zero] at g0 g1 g2
  obtain ⟨p, e0, _, _⟩ := DataW.trod_int Tryz.underlying3 g0
  obtain ⟨q, e1, _, _⟩ := DataW.trod_int Tryz.underlying3 g1
  obtain ⟨z0, z1, n2, _, _, t0, t1⟩ := trod_struct2 Tryz.underlying59 g2
  simp only [hI, hE, List.drop_zero, List.drop_succ_cons, List.take_succ_cons, List.take_zero] at t0 t1
  obtain ⟨r, e2, _, _⟩ := DataW.trod_int Tryz.underlying30 t0
  obtain ⟨v, e3, _, wv⟩ := DataW.trod_int Tryz.underlying3 t1
  simp at e0 e1 e2 e3
  subst e0 e1 e2 e3
  exact ⟨⟨p, q, r, v⟩, rfl, int_of wv⟩
theorem rows_open {A : Option Addr} {len cap fuel : Nat} {x : DataW H × List MemPlace}
    (h : DataW.trod enc Tryz.prog w 0 (fun _ => true) true fuel 37 [.slice A len cap] = some x) : ∃ l, RdW w A len l ∧ ∀ r ∈ l, IsInt r.va := by
  have h4 : Tryz.prog.cellsOf 88 = 4 := by kernel_rfl
  rcases open_slice Tryz.underlying37 h with ⟨hcs, _⟩ | ⟨a, len', cap', m, n, D, Pl, hcs, _, hl, _, hm, _, hi⟩
  · simp at hcs
    obtain ⟨rfl, rfl, rfl⟩ := hcs
    exact ⟨[], RdW.nil, fun r hr => by cases hr⟩
  · simp at hcs
    obtain ⟨rfl, rfl, rfl⟩ := hcs
    simp only [if_true] at hm
    subst hm
    by_cases h0 : m = 0
    · subst h0
      obtain rfl : len = 0 := by omega
      exact ⟨[], ⟨rfl, fun q => by omega⟩, fun r hr => by cases hr⟩
    obtain ⟨b, off, spot⟩ := a
    have hcell : ∀ i, i < m → ∃ y : Rw, IsInt y.va ∧ ∀ j v, (rc4 y)[j]? = some v → w.cell? (((⟨b, off, spot⟩ : Addr).add (i * 4)).add j) = some v := fun i hlt => by
      obtain ⟨cs, hc, ht⟩ := hi i hlt
      rw [h4] at hc
      obtain ⟨_, hcl, hat⟩ := World.cells?_some hc
      obtain ⟨y, rfl, ri⟩ := row_open ht
      refine ⟨y, ri, fun j v hj => ?_⟩
      have hj4 : j < 4 := (List.getElem?_eq_some_iff.1 hj).1
      rw [hat j (by simpa using hj4)]
      exact hj
    obtain ⟨y0, _, hk0⟩ := hcell 0 (by omega)
    have hk := hk0 0 _ rfl
    have hspot : spot = none := by simpa [Addr.add] using World.cell?_spot hk
    subst hspot
    have hlt : b < w.heap.size := by
      have := World.block_lt_of_cell? w _ hk
      simpa [Addr.add] using this
    have key : ∀ i, i < m → ∃ y : Rw, IsInt y.va ∧ ∀ j v, (rc4 y)[j]? = some v → w.cell? ⟨b, off + i * 4 + j, none⟩ = some v := fun i him => by
      obtain ⟨y, ri, hc⟩ := hcell i him
      simp only [add_plain] at hc
      exact ⟨y, ri, hc⟩
    have key2 : ∀ k, k ≤ m → ∃ l : List Rw, l.length = k ∧ ∀ j x, l[j]? = some x → IsInt x.va ∧ ∀ i v, (rc4 x)[i]? = some v → w.cell? ⟨b, off + j * 4 + i, none⟩ = some v := by
      intro k
      induction k with
      | zero => intro _; exact ⟨[], rfl, fun j x hj => by simp at hj⟩
      | succ k ih =>
        intro hk
        obtain ⟨l, h1, h2⟩ := ih (by omega)
        obtain ⟨y, hy⟩ := key k (by omega)
        refine ⟨l ++ [y], by simp [h1], fun j x hj => ?_⟩
        by_cases hjk : j < k
        · rw [List.getElem?_append_left (by omega)] at hj
          exact h2 j x hj
        · have hlt := (List.getElem?_eq_some_iff.1 hj).1
          simp [h1] at hlt
          obtain rfl : j = k := by omega
          rw [List.getElem?_append_right (by omega), h1, Nat.sub_self] at hj
          simp at hj
          subst hj
          exact hy
    obtain ⟨l, hl', hc⟩ := key2 len hl
    exact ⟨l, ⟨hl', fun _ => ⟨b, off, rfl, hlt, fun j x hj i u hu => (hc j x hj).2 i u hu⟩⟩, fun r hr => by obtain ⟨j, hj⟩ := List.mem_iff_getElem?.1 hr; exact (hc j r hj).1⟩
/-- A state that came in reads as one. -/
theorem state_open {cs : List Value} {fuel : Nat} {x : DataW H × List MemPlace} (h : DataW.trod enc Tryz.prog w 0 (fun _ => true) true fuel 39 cs = some x) :
    ∃ (S : St) (s : SSl), cs = scs S s ∧ RdT w s S ∧ IntsS S := by
  have hH : Tryz.prog.cellsOf 26 = 8 := by kernel_rfl
  have hR : Tryz.prog.cellsOf 37 = 1 := by kernel_rfl
  have hO : Tryz.prog.cellsOf 39 = 9 := by kernel_rfl
  obtain ⟨z0, z1, n2, _, hlen, t0, t1⟩ := trod_struct2 Tryz.underlying39 h
  simp only [hH, hR] at t0 t1
  rw [hO] at hlen
  obtain ⟨G, s, e0, r0, i0⟩ := heapI_open t0
  have hl1 : (cs.drop 8).length = 1 := by rw [List.length_drop, hlen]
  obtain ⟨c8, hc8⟩ : ∃ c8, cs.drop 8 = [c8] := by
    match hcs : cs.drop 8, hl1 with
    | [c8], _ => exact ⟨c8, rfl⟩
  simp only [List.drop_zero] at e0
  have hc8' : (cs.drop 8).take 1 = [c8] := by rw [hc8]; rfl
  have t1' : DataW.trod enc Tryz.prog w 0 (fun _ => true) true n2 37 [c8] = some z1 := by rw [← hc8']; exact t1
  have s1 : ∃ A n c, c8 = .slice A n c := by
    rcases open_slice Tryz.underlying37 t1' with ⟨hcs, _⟩ | ⟨a, len', cap', _, _, _, _, hcs, _⟩
    · simp at hcs; exact ⟨_, _, _, hcs⟩
    · simp at hcs; exact ⟨_, _, _, hcs⟩
  obtain ⟨A, k, c, rfl⟩ := s1
  obtain ⟨l, r1, i1⟩ := rows_open t1'
  refine ⟨⟨G, l⟩, ⟨s, A, k, c⟩, ?_, ⟨r0, r1⟩, i0, i1⟩
  rw [← List.take_append_drop 8 cs, hc8, e0]
  rfl
end
end Go.Proofs.YtlnmmklpccppmaaGreatDoor

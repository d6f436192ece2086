/-
  Two heaps, and two states, have the same bytes just if they are the same: the walk of the statement.
-/
import Derived.Test.YtlnmmklpccppmaaGreatDoorTg54
import Derived.Test.YtlnmmklpccppmaaGreatDoorTg55
import Derived.Test.YtlnmmklpccppmaaGreatDoorTg27
import Derived.Lib.QuietBelow
import Derived.Deep.DeepCutAuto
namespace Go.Proofs.YtlnmmklpccppmaaGreatDoor
open Go.RowKit
theorem doneH_ints {h : Hp} (hI : IntsH h) (o : Opn) (hv : IsInt o.v) : IntsH (doneH h o).1 := by
  have hrep : ∀ n : Nat, ∀ m ∈ List.replicate n (0 : Int), IsInt m := fun n m hm => by
    rw [(List.mem_replicate.1 hm).2]
    exact ⟨by decide, by decide⟩
  have hset : ∀ (p : Nat) (x y : Ob), h.obs[p]? = some x → (∀ n ∈ y.ws, IsInt n) → ∀ z ∈ h.obs.set p y, ∀ n ∈ z.ws, IsInt n := fun p x y _ hy z hz n hn => by
    rcases List.mem_or_eq_of_mem_set hz with e | e
    · exact hI z e n hn
    · rw [e] at hn; exact hy n hn
  unfold doneH
  split
  · unfold allocH
    split
    · exact hI
    · split
      · exact hI
      · split
        · exact hI
        · intro x hx n hn
          rcases List.mem_append.1 hx with e | e
          · exact hI x e n hn
          · rw [List.mem_singleton.1 e] at hn
            exact hrep _ n hn
  · split
    · split
      · exact hI
      · rename_i q hq
        obtain ⟨p, x⟩ := q
        obtain ⟨hp, hx⟩ := findO_get hq
        simp only
        unfold objH
        split
        · unfold freeH
          intro y hy n hn
          obtain ⟨z, hz, rfl⟩ := List.mem_map.1 hy
          exact hI z (List.mem_of_mem_eraseIdx hz) n hn
        · split
          · exact hI
          · split
            · refine hset p x _ hp fun n hn => ?_
              rcases List.mem_or_eq_of_mem_set hn with e | e
              · exact hI x (List.mem_of_getElem? hp) n e
              · rw [e]; exact hv
            · split
              · split
                · exact hset p x _ hp fun n hn => hI x (List.mem_of_getElem? hp) n hn
                · exact hI
              · exact hI
    · split
      · unfold topH
        split
        · exact hI
        · split
          · exact hI
          · split
            · exact hI
            · exact hI
      · exact hI
theorem doH_fits {h : Hp} (hI : IntsH h) (o : Opn) (hv : IsInt o.v) : SmallH (doH h o).1 ∧ IntsH (doH h o).1 := by
  by_cases k : RightH h
  · rw [doH_right k]
    exact ⟨rightI_small (doneH_right k o).1, doneH_ints hI o hv⟩
  · rw [doH_wrong k]
    exact ⟨smallI_zero, fun x hx => by cases hx⟩
/-- The second state, which may have come of the first one. -/
def ApRel (w : World) (p4 p5 : Nat) (S : St) (s : SSl) (wc : World) : Prop :=
  ∃ (T : St) (t : SSl), Whole wc p4 39 (scs S s) ∧ Whole wc p5 39 (scs T t) ∧ RdT wc t T ∧ SmallS T ∧ IntsS T ∧ Below w.heap.size w wc
set_option maxRecDepth 20000 in
set_option maxHeartbeats 4000000 in
theorem imageApart_walk (s : SSl) (S : St) (t : SSl) (T : St) (ns : List Int) (on : Bool) (w : World) (hT : Tab w) (h : RdT w s S) (hI : IntsS S) (h2 : RdT w t T) (hI2 : IntsS T) (hns : IsOp7 ns) :
    Calls Tryz.prog 8 #[sval S s, sval T t, .agg (intvs ns).toArray, .bool on] w (Holds w) := by
  obtain ⟨hn7, hni⟩ := hns
  match ns, hn7 with
  | [k, hh, ii, nn, kk, vv, tt], _ =>
  have Hv := Lib.hid (hni vv (by simp))
  have HT := Lib.hid hT
  have HR := Lib.hid h
  have HR2 := Lib.hid h2
  have HI := Lib.hid hI
  have HI2 := Lib.hid hI2
  have K4 := ((Whole.new w (scs S s).toArray 39).alloc (.cells (scs T t).toArray 39)).alloc (.cells #[.int .i64 k, .int .i64 hh, .int .i64 ii, .int .i64 nn, .int .i64 kk, .int .i64 vv, .int .i64 tt] 50)
  have K5 := (Whole.new (w.alloc (.cells (scs S s).toArray 39)) (scs T t).toArray 39).alloc (.cells #[.int .i64 k, .int .i64 hh, .int .i64 ii, .int .i64 nn, .int .i64 kk, .int .i64 vv, .int .i64 tt] 50)
  have K6 := Whole.new ((w.alloc (.cells (scs S s).toArray 39)).alloc (.cells (scs T t).toArray 39)) #[.int .i64 k, .int .i64 hh, .int .i64 ii, .int .i64 nn, .int .i64 kk, .int .i64 vv, .int .i64 tt] 50
  have z1 : (w.alloc (.cells (scs S s).toArray 39)).heap.size = w.heap.size + 1 := by simp
  have z2 : ((w.alloc (.cells (scs S s).toArray 39)).alloc (.cells (scs T t).toArray 39)).heap.size = w.heap.size + 1 + 1 := by simp
  have z3 := Lib.hid (show (((w.alloc (.cells (scs S s).toArray 39)).alloc (.cells (scs T t).toArray 39)).alloc (.cells #[.int .i64 k, .int .i64 hh, .int .i64 ii, .int .i64 nn, .int .i64 kk, .int .i64 vv, .int .i64 tt] 50)).heap.size = w.heap.size + 3 by simp)
  rw [z1] at K5
  rw [z2] at K6
  have B0 := (((Below.refl w.heap.size w).alloc (Nat.le_refl _) (.cells (scs S s).toArray 39)).alloc (by rw [z1]; omega) (.cells (scs T t).toArray 39)).alloc (by rw [z2]; omega) (.cells #[.int .i64 k, .int .i64 hh, .int .i64 ii, .int .i64 nn, .int .i64 kk, .int .i64 vv, .int .i64 tt] 50)
  clear hT h h2 hI hI2 hni z1 z2
  obtain ⟨⟨A, n, c, F, m, d⟩, R, nr, cr⟩ := s
  obtain ⟨⟨A2, n2, c2, F2, m2, d2⟩, R2, nr2, cr2⟩ := t
  obtain ⟨H, rs⟩ := S
  obtain ⟨H2, rs2⟩ := T
  simp only [sval, scs, hcs, List.cons_append, List.nil_append, intvs, List.map_cons, List.map_nil] at *
  go_enter Tryz.func8, Tryz.ntmps8
  go_upto_region 1 with (fail)
  obtain ⟨W, hW⟩ : ∃ W, W = ((w.alloc (.cells #[.int .i64 H.od, .slice A n c, .int .i64 H.nx, .int .i64 (tget H 0), .int .i64 (tget H 1), .int .i64 (tget H 2), .int .i64 (tget H 3), .slice F m d, .slice R nr cr] 39)).alloc (.cells #[.int .i64 H2.od, .slice A2 n2 c2, .int .i64 H2.nx, .int .i64 (tget H2 0), .int .i64 (tget H2 1), .int .i64 (tget H2 2), .int .i64 (tget H2 3), .slice F2 m2 d2, .slice R2 nr2 cr2] 39)).alloc (.cells #[.int .i64 k, .int .i64 hh, .int .i64 ii, .int .i64 nn, .int .i64 kk, .int .i64 vv, .int .i64 tt] 50) := ⟨_, rfl⟩
  rw [← hW] at K4 K5 K6 B0 z3 ⊢
  clear hW
  obtain ⟨a0, a1, a2, a3, a4, a5, a6, a7, a8⟩ := K4.nine
  have S1 := refBigS_any ⟨⟨A, n, c, F, m, d⟩, R, nr, cr⟩ ⟨H, rs⟩ W (HR.out.below B0)
  simp only [sval, scs, hcs, List.cons_append, List.nil_append] at S1
  have HK4 := Lib.hid K4
  have HK5 := Lib.hid K5
  have HK6 := Lib.hid K6
  have HB0 := Lib.hid B0
  clear K4 K5 K6 B0
  go_wp2_with fail
  refine S1.mono ?_
  rintro e w1 ⟨q, rfl, hq, gr1⟩
  have b1 := gr1.below
  have L4 := HK4.out.below b1
  have L5 := HK5.out.below b1
  have L6 := HK6.out.below b1
  have B1 := HB0.out.trans (b1.mono HB0.out.size)
  have Hs1 := Lib.hid b1.size
  clear S1 a0 a1 a2 a3 a4 a5 a6 a7 a8 b1 gr1
  cases q with
  | true =>
    have B9 := Lib.hid B1
    clear L4 L5 L6 B1
    go_wp2
    go_ret
    exact ⟨rfl, B9.out⟩
  | false =>
  have hS := Lib.hid (hq rfl)
  clear hq
  obtain ⟨a0, a1, a2, a3, a4, a5, a6, a7, a8⟩ := L5.nine
  have S2 := refBigS_any ⟨⟨A2, n2, c2, F2, m2, d2⟩, R2, nr2, cr2⟩ ⟨H2, rs2⟩ w1 (HR2.out.below B1)
  simp only [sval, scs, hcs, List.cons_append, List.nil_append] at S2
  have HL4 := Lib.hid L4
  have HL5 := Lib.hid L5
  have HL6 := Lib.hid L6
  have HB1 := Lib.hid B1
  clear L4 L5 L6 B1
  go_wp2_with fail
  refine S2.mono ?_
  rintro e w2 ⟨q, rfl, hq, gr2⟩
  have b2 := gr2.below
  have L4 := HL4.out.below b2
  have L5 := HL5.out.below b2
  have L6 := HL6.out.below b2
  have B2 := HB1.out.trans (b2.mono HB1.out.size)
  have Hs2 := Lib.hid (Nat.le_trans Hs1.out b2.size)
  clear S2 a0 a1 a2 a3 a4 a5 a6 a7 a8 b2 gr2 HL4 HL5 HL6 HB1 HK4 HK5 HK6 HB0 Hs1
  cases q with
  | true =>
    have B9 := Lib.hid B2
    clear L4 L5 L6 B2
    go_wp2
    go_ret
    exact ⟨rfl, B9.out⟩
  | false =>
  have hS2 := Lib.hid (hq rfl)
  clear hq
  have HL4 := Lib.hid L4
  have HL5 := Lib.hid L5
  have HL6 := Lib.hid L6
  have HB2 := Lib.hid B2
  have HST := Lib.hid (show ApRel w w.heap.size (w.heap.size + 1) ⟨H, rs⟩ ⟨⟨A, n, c, F, m, d⟩, R, nr, cr⟩ w2 from ⟨⟨H2, rs2⟩, ⟨⟨A2, n2, c2, F2, m2, d2⟩, R2, nr2, cr2⟩, L4, L5, HR2.out.below B2, hS2.out, HI2.out, B2⟩)
  clear L4 L5 L6 B2
  obtain ⟨W7, hW7⟩ : ∃ W7, W7 = w2 := ⟨_, rfl⟩
  subst hW7
  go_upto_if 25 with (fail)
  go_cut [9] (fun v wc => ApRel w w.heap.size (w.heap.size + 1) ⟨H, rs⟩ ⟨⟨A, n, c, F, m, d⟩, R, nr, cr⟩ wc)
  case first =>
    cases on with
    | false =>
      go_wp2_with fail
      go_meet
      exact HST.out
    | true =>
      clear HST
      obtain ⟨a0, a1, a2, a3, a4, a5, a6, a7, a8⟩ := HL4.out.nine
      have SO := refOwnS_any ⟨⟨A, n, c, F, m, d⟩, R, nr, cr⟩ ⟨H, rs⟩ W7 (HR.out.below HB2.out) hS.out
      simp only [sval, scs, hcs, List.cons_append, List.nil_append] at SO
      go_wp2_with fail
      refine SO.mono ?_
      rintro e w3 ⟨⟨⟨A4, n4, c4, F4, m4, d4⟩, R4, nr4, cr4⟩, os4, rfl, O4, b3⟩
      simp only [sval, scs, hcs, List.cons_append, List.nil_append]
      have M4 := HL4.out.below b3
      have M5 := HL5.out.below b3
      have M6 := HL6.out.below b3
      have B3 := HB2.out.trans (b3.mono HB2.out.size)
      have f5 := M5.free
      clear SO a0 a1 a2 a3 a4 a5 a6 a7 a8
      obtain ⟨e0, e1, e2, e3, e4, e5, e6, e7, e8⟩ := M5.nine
      have gs := grown_set9 w3 (w.heap.size + 1) (.int .i64 H.od) (.slice A4 n4 c4) (.int .i64 H.nx) (.int .i64 (tget H 0)) (.int .i64 (tget H 1)) (.int .i64 (tget H 2)) (.int .i64 (tget H 3)) (.slice F4 m4 d4) (.slice R4 nr4 cr4)
      have N5 := ((((((((M5.set 0 (.int .i64 H.od)).set 1 (.slice A4 n4 c4)).set 2 (.int .i64 H.nx)).set 3 (.int .i64 (tget H 0))).set 4 (.int .i64 (tget H 1))).set 5 (.int .i64 (tget H 2))).set 6 (.int .i64 (tget H 3))).set 7 (.slice F4 m4 d4)).set 8 (.slice R4 nr4 cr4)
      have N4 := M4.grown gs (by omega)
      have N6 := M6.grown gs (by omega)
      have hlow : w.heap.size + 3 ≤ W7.heap.size := by have := Hs2.out; have := z3.out; omega
      have P4 := O4.grownI gs (by omega)
      have B4 := below_grown B3 gs B3.size (by omega)
      have hz4 := Lib.hid (show W7.heap.size ≤ w3.heap.size from b3.size)
      clear M4 M5 M6 O4 b3 B3
      go_upto_region 5 with (fail)
      generalize (((((((((w3.setCell ⟨w.heap.size + 1, 0, none⟩ _).setCell ⟨w.heap.size + 1, 1, none⟩ _).setCell ⟨w.heap.size + 1, 2, none⟩ _).setCell ⟨w.heap.size + 1, 3, none⟩ _).setCell ⟨w.heap.size + 1, 4, none⟩ _).setCell ⟨w.heap.size + 1, 5, none⟩ _).setCell ⟨w.heap.size + 1, 6, none⟩ _).setCell ⟨w.heap.size + 1, 7, none⟩ _).setCell ⟨w.heap.size + 1, 8, none⟩ _) = W4 at gs N5 N4 N6 P4 B4 ⊢
      clear e0 e1 e2 e3 e4 e5 e6 e7 e8 f5
      simp only [List.set_cons_zero, List.set_cons_succ] at N5
      have HN4 := Lib.hid N4
      have HN5 := Lib.hid N5
      have HP4 := Lib.hid P4
      have HB4 := Lib.hid B4
      have hz5 := Lib.hid (show W7.heap.size ≤ W4.heap.size from Nat.le_trans hz4.out gs.size)
      clear gs
      obtain ⟨a0, a1, a2, a3, a4, a5, a6, a7, a8⟩ := N4.nine
      obtain ⟨o0, o1, o2, o3, o4, o5, o6⟩ : _ ∧ _ ∧ _ ∧ _ ∧ _ ∧ _ ∧ _ := ⟨N6.cell 0, N6.cell 1, N6.cell 2, N6.cell 3, N6.cell 4, N6.cell 5, N6.cell 6⟩
      have SD := do_heap ⟨A, n, c, F, m, d⟩ H ⟨k, hh, ii, nn, kk, vv, tt⟩ W4 (HR.out.hp.below B4) hS.out.1 (HT.out.below B4)
      have HD := Lib.hid (doH_fits HI.out.1 ⟨k, hh, ii, nn, kk, vv, tt⟩ Hv.out)
      generalize doH H ⟨k, hh, ii, nn, kk, vv, tt⟩ = rr at SD HD
      obtain ⟨H', rc, rv⟩ := rr
      simp only at HD
      simp only [hval, hcs, opv, opcs] at SD
      clear N4 N5 N6 P4 B4 HL4 HL5 HL6
      go_wp2_with fail
      refine SD.mono ?_
      rintro e w5 ⟨⟨A5, n5, c5, F5, m5, d5⟩, os5, rfl, O5, b5⟩
      simp only [hval, hcs]
      clear SD a0 a1 a2 a3 a4 a5 a6 a7 a8 o0 o1 o2 o3 o4 o5 o6
      have bA := ((Below.refl w5.heap.size w5).alloc (Nat.le_refl _) (.cells #[.int .i64 H'.od, .slice A5 n5 c5, .int .i64 H'.nx, .int .i64 (tget H' 0), .int .i64 (tget H' 1), .int .i64 (tget H' 2), .int .i64 (tget H' 3), .slice F5 m5 d5] 26)).alloc (by simp) (.cells #[.int .i64 rc, .int .i64 rv] 59)
      have K9 := (Whole.new w5 #[.int .i64 H'.od, .slice A5 n5 c5, .int .i64 H'.nx, .int .i64 (tget H' 0), .int .i64 (tget H' 1), .int .i64 (tget H' 2), .int .i64 (tget H' 3), .slice F5 m5 d5] 26).alloc (.cells #[.int .i64 rc, .int .i64 rv] 59)
      obtain ⟨p9, hp9⟩ : ∃ p9, p9 = w5.heap.size := ⟨_, rfl⟩
      rw [← hp9] at K9
      have hne9 : p9 ≠ w.heap.size + 1 := by have := hz5.out; have := b5.size; have := HN5.out.lt; omega
      go_upto_region 6 with (fail)
      rw [← hp9]
      generalize (w5.alloc (.cells #[.int .i64 H'.od, .slice A5 n5 c5, .int .i64 H'.nx, .int .i64 (tget H' 0), .int .i64 (tget H' 1), .int .i64 (tget H' 2), .int .i64 (tget H' 3), .slice F5 m5 d5] 26)).alloc (.cells #[.int .i64 rc, .int .i64 rv] 59) = W6 at bA K9 ⊢
      clear hp9
      have b6 := b5.trans (bA.mono b5.size)
      have N4 := HN4.out.below b6
      have N5 := HN5.out.below b6
      have P4 := HP4.out.below b6
      have O6 := O5.below bA
      have B6 := HB4.out.trans (b6.mono HB4.out.size)
      have f5 := N5.free
      obtain ⟨e0, e1, e2, e3, e4, e5, e6, e7, e8⟩ := N5.nine
      obtain ⟨g0, g1, g2, g3, g4, g5, g6, g7⟩ := K9.eight
      have gs := grown_set8 W6 (w.heap.size + 1) (.int .i64 H'.od) (.slice A5 n5 c5) (.int .i64 H'.nx) (.int .i64 (tget H' 0)) (.int .i64 (tget H' 1)) (.int .i64 (tget H' 2)) (.int .i64 (tget H' 3)) (.slice F5 m5 d5)
      have HF := Lib.hid (show ApRel w w.heap.size (w.heap.size + 1) ⟨H, rs⟩ ⟨⟨A, n, c, F, m, d⟩, R, nr, cr⟩ ((((((((W6.setCell ⟨w.heap.size + 1, 0, none⟩ (.int .i64 H'.od)).setCell ⟨w.heap.size + 1, 1, none⟩ (.slice A5 n5 c5)).setCell ⟨w.heap.size + 1, 2, none⟩ (.int .i64 H'.nx)).setCell ⟨w.heap.size + 1, 3, none⟩ (.int .i64 (tget H' 0))).setCell ⟨w.heap.size + 1, 4, none⟩ (.int .i64 (tget H' 1))).setCell ⟨w.heap.size + 1, 5, none⟩ (.int .i64 (tget H' 2))).setCell ⟨w.heap.size + 1, 6, none⟩ (.int .i64 (tget H' 3))).setCell ⟨w.heap.size + 1, 7, none⟩ (.slice F5 m5 d5)) from
        ⟨⟨H', rs⟩, ⟨⟨A5, n5, c5, F5, m5, d5⟩, R4, nr4, cr4⟩, N4.grown gs (by omega),
          (((((((N5.set 0 _).set 1 _).set 2 _).set 3 _).set 4 _).set 5 _).set 6 _).set 7 _,
          OwnSt.rd (base := W7.heap.size) (os := os5) ⟨((O6.grownI gs (by have := hz5.out; omega)).mono hz5.out), (P4.grownI gs (by omega)).rs⟩,
          ⟨HD.out.1, hS.out.2⟩, ⟨HD.out.2, HI.out.2⟩, below_grown B6 gs B6.size (by omega)⟩)
      clear gs N4 N5 P4 O6 B6 b6 bA O5 b5 K9
      go_wp2_with fail
      go_meet
      exact HF.out
  case rest =>
    obtain ⟨⟨H3, rs3⟩, ⟨⟨A3, n3, c3, F3, m3, d3⟩, R3, nr3, cr3⟩, L4, L5, rt, hST, hIT, bb⟩ := hcut
    simp only [scs, hcs, List.cons_append, List.nil_append] at L4 L5
    obtain ⟨a0, a1, a2, a3, a4, a5, a6, a7, a8⟩ := L4.nine
    have SP := putState_any ⟨⟨A, n, c, F, m, d⟩, R, nr, cr⟩ ⟨H, rs⟩ wc (HR.out.below bb) hS.out (HT.out.below bb) HI.out
    simp only [sval, scs, hcs, List.cons_append, List.nil_append] at SP
    have HL4 := Lib.hid L4
    have HL5 := Lib.hid L5
    have HRT := Lib.hid rt
    have HBB := Lib.hid bb
    have hS3 := Lib.hid hST
    have HI3 := Lib.hid hIT
    clear L4 L5 rt hST hIT bb HST HL6 HB2 hS2 HI2 HR2
    go_wp2_with fail
    refine SP.mono ?_
    rintro e w4 ⟨b4, hput⟩
    have L4 := HL4.out.below b4
    have L5 := HL5.out.below b4
    have RT := HRT.out.below b4
    have B4 := HBB.out.trans (b4.mono HBB.out.size)
    clear SP a0 a1 a2 a3 a4 a5 a6 a7 a8
    obtain ⟨a0, a1, a2, a3, a4, a5, a6, a7, a8⟩ := L5.nine
    have SQ := putState_any ⟨⟨A3, n3, c3, F3, m3, d3⟩, R3, nr3, cr3⟩ ⟨H3, rs3⟩ w4 RT hS3.out (HT.out.below B4) HI3.out
    simp only [sval, scs, hcs, List.cons_append, List.nil_append] at SQ
    have HL4' := Lib.hid L4
    have HL5' := Lib.hid L5
    have HRT' := Lib.hid RT
    have HB4 := Lib.hid B4
    clear L4 L5 RT B4 b4 HL4 HL5 HRT HBB
    rcases hput with ⟨hRS, va, rfl, oa⟩ | ⟨hRS, rfl⟩
    case inr =>
      go_wp2_with fail
      refine SQ.mono ?_
      rintro e w5 ⟨b5, hput2⟩
      have HB5 := Lib.hid (HB4.out.trans (b5.mono HB4.out.size))
      clear SQ a0 a1 a2 a3 a4 a5 a6 a7 a8 b5 HL4' HL5' HRT'
      rcases hput2 with ⟨_, vb, rfl, ob⟩ | ⟨_, rfl⟩
      · obtain ⟨Ab, cb, rfl, _, _, _⟩ := ob.shape
        clear ob
        go_wp2_with fail
        refine (states_holds w5 (HT.out.below HB5.out)).mono ?_
        rintro e wx ⟨rfl, bx⟩
        have Bx := Lib.hid (HB5.out.trans (bx.mono HB5.out.size))
        clear bx
        go_wp2_with fail
        refine (heaps_holds wx (HT.out.below Bx.out)).mono ?_
        rintro e wy ⟨rfl, bY⟩
        have By := Lib.hid (Bx.out.trans (bY.mono Bx.out.size))
        clear bY
        go_wp2
        go_ret
        exact ⟨rfl, By.out⟩
      · skip
        go_wp2_with fail
        refine (states_holds w5 (HT.out.below HB5.out)).mono ?_
        rintro e wx ⟨rfl, bx⟩
        have Bx := Lib.hid (HB5.out.trans (bx.mono HB5.out.size))
        clear bx
        go_wp2_with fail
        refine (heaps_holds wx (HT.out.below Bx.out)).mono ?_
        rintro e wy ⟨rfl, bY⟩
        have By := Lib.hid (Bx.out.trans (bY.mono Bx.out.size))
        clear bY
        go_wp2
        go_ret
        exact ⟨rfl, By.out⟩
    obtain ⟨Ya, hYa⟩ : ∃ Y, Y = encS ⟨H, rs⟩ := ⟨_, rfl⟩
    rw [← hYa] at oa
    obtain ⟨Aa, ca, rfl, _, _, ra⟩ := oa.shape
    have HYa := Lib.hid hYa
    have HRS := Lib.hid hRS
    clear oa hYa hRS
    go_wp2_with fail
    refine SQ.mono ?_
    rintro e w5 ⟨b5, hput2⟩
    have B5 := HB4.out.trans (b5.mono HB4.out.size)
    have HB5 := Lib.hid B5
    have L4 := HL4'.out.below b5
    have L5 := HL5'.out.below b5
    have RT := HRT'.out.below b5
    have ra5 := ra.below b5
    clear SQ a0 a1 a2 a3 a4 a5 a6 a7 a8 b5 HL4' HL5' HRT' HB4
    rcases hput2 with ⟨hRT, vb, rfl, ob⟩ | ⟨hRT, rfl⟩
    case inr =>
      clear L4 L5 RT ra5 hRT B5
      go_wp2_with fail
      refine (states_holds w5 (HT.out.below HB5.out)).mono ?_
      rintro e wx ⟨rfl, bx⟩
      have Bx := Lib.hid (HB5.out.trans (bx.mono HB5.out.size))
      clear bx
      go_wp2_with fail
      refine (heaps_holds wx (HT.out.below Bx.out)).mono ?_
      rintro e wy ⟨rfl, bY⟩
      have By := Lib.hid (Bx.out.trans (bY.mono Bx.out.size))
      clear bY
      go_wp2
      go_ret
      exact ⟨rfl, By.out⟩
    obtain ⟨Yb, hYb⟩ : ∃ Y, Y = encS ⟨H3, rs3⟩ := ⟨_, rfl⟩
    rw [← hYb] at ob
    obtain ⟨Ab, cb, rfl, _, _, rb⟩ := ob.shape
    have HYb := Lib.hid hYb
    have HRTt := Lib.hid hRT
    clear ob hYb hRT
    have SH := putHeap_any ⟨A, n, c, F, m, d⟩ H w5 (HR.out.hp.below B5) hS.out.1 (HT.out.below B5) HI.out.1
    simp only [hval, hcs] at SH
    obtain ⟨a0, a1, a2, a3, a4, a5, a6, a7, a8⟩ := L4.nine
    go_wp2_with fail
    refine SH.mono ?_
    rintro e w6 ⟨b6, hput⟩
    obtain ⟨X, hX⟩ : ∃ X, X = encH H := ⟨_, rfl⟩
    obtain ⟨vx, rfl, ox⟩ : ∃ v, e = .returned (.tuple #[v, .int .i64 0]) ∧ Own 5 w6 w5.heap.size v X := by
      rw [hX]
      rcases hput with ⟨_, h⟩ | ⟨h, _⟩
      · exact h
      · exact absurd HRS.out.1 h
    obtain ⟨Ax, cx, rfl, _, _, rx⟩ := ox.shape
    have HX := Lib.hid hX
    have B6 := B5.trans (b6.mono B5.size)
    have L4' := L4.below b6
    have L5' := L5.below b6
    have RT' := RT.below b6
    have ra6 := ra5.below b6
    have rb6 := rb.below b6
    clear SH a0 a1 a2 a3 a4 a5 a6 a7 a8 hput hX ox b6 L4 L5 RT ra5 rb B5 HB5
    have SH := putHeap_any ⟨A3, n3, c3, F3, m3, d3⟩ H3 w6 RT'.hp hS3.out.1 (HT.out.below B6) HI3.out.1
    simp only [hval, hcs] at SH
    obtain ⟨a0, a1, a2, a3, a4, a5, a6, a7, a8⟩ := L5'.nine
    go_wp2_with fail
    refine SH.mono ?_
    rintro e w7 ⟨b7, hput⟩
    obtain ⟨Z, hZ⟩ : ∃ X, X = encH H3 := ⟨_, rfl⟩
    obtain ⟨vz, rfl, oz⟩ : ∃ v, e = .returned (.tuple #[v, .int .i64 0]) ∧ Own 5 w7 w6.heap.size v Z := by
      rw [hZ]
      rcases hput with ⟨_, h⟩ | ⟨h, _⟩
      · exact h
      · exact absurd HRTt.out.1 h
    obtain ⟨Az, cz, rfl, _, _, rz⟩ := oz.shape
    have HZ := Lib.hid hZ
    have B7 := B6.trans (b7.mono B6.size)
    have L4 := L4'.below b7
    have L5 := L5'.below b7
    have RT := RT'.below b7
    have ra := ra6.below b7
    have rb := rb6.below b7
    have rx7 := rx.below b7
    clear SH a0 a1 a2 a3 a4 a5 a6 a7 a8 hput hZ oz b7 L4' L5' RT' ra6 rb6 rx B6
    go_upto_region 13 with (fail)
    obtain ⟨W9, hW9⟩ : ∃ W9, W9 = w7 := ⟨_, rfl⟩
    subst hW9
    have HB9 := Lib.hid B7
    obtain ⟨a0, a1, a2, a3, a4, a5, a6, a7, a8⟩ := L4.nine
    obtain ⟨d0, d1, d2', d3', d4, d5, d6, d7, d8⟩ := L5.nine
    have k0 := cell_regrown a0
    have k1 := cell_regrown a1
    have k2 := cell_regrown a2
    have k3 := cell_regrown a3
    have k4 := cell_regrown a4
    have k5 := cell_regrown a5
    have k6 := cell_regrown a6
    have k7 := cell_regrown a7
    have k8 := cell_regrown a8
    have l0 := cell_regrown d0
    have l1 := cell_regrown d1
    have l2 := cell_regrown d2'
    have l3 := cell_regrown d3'
    have l4 := cell_regrown d4
    have l5 := cell_regrown d5
    have l6 := cell_regrown d6
    have l7 := cell_regrown d7
    have l8 := cell_regrown d8
    have cS : ∀ dd os, Calls Tryz.prog 23 #[] (Go.Sort.grow (redrawn W9 dd) os) fun e w'' => e = .returned (.bool true) ∧ ∃ p : Regrown, w'' = Go.Sort.grow (redrawn W9 p.d) p.os := fun dd os => Calls.regrown_of (states_holds _ (HT.out.below (B7.trans ((below_regrown W9 dd os).mono B7.size))))
    have cH : ∀ dd os, Calls Tryz.prog 14 #[] (Go.Sort.grow (redrawn W9 dd) os) fun e w'' => e = .returned (.bool true) ∧ ∃ p : Regrown, w'' = Go.Sort.grow (redrawn W9 p.d) p.os := fun dd os => Calls.regrown_of (heaps_holds _ (HT.out.below (B7.trans ((below_regrown W9 dd os).mono B7.size))))
    have cT := fun dd os => Calls.regrown_of ((refSameS_any ⟨⟨A, n, c, F, m, d⟩, R, nr, cr⟩ ⟨⟨A3, n3, c3, F3, m3, d3⟩, R3, nr3, cr3⟩ ⟨H, rs⟩ ⟨H3, rs3⟩ _ (HR.out.below (B7.trans ((below_regrown W9 dd os).mono B7.size))) (RT.below (below_regrown W9 dd os)) hS.out).mono fun _ _ h => ⟨h.1, h.2.below⟩)
    have cK := fun dd os => Calls.regrown_of ((refSameH_any ⟨A, n, c, F, m, d⟩ ⟨A3, n3, c3, F3, m3, d3⟩ H H3 _ (HR.out.hp.below (B7.trans ((below_regrown W9 dd os).mono B7.size))) (RT.hp.below (below_regrown W9 dd os)) hS.out.1).mono fun _ _ h => ⟨h.1, h.2.below⟩)
    have va := fun dd os => (ra.below (below_regrown W9 dd os)).conv (P := Tryz.prog) ca 29 5 9 Tryz.underlying29 Tryz.underlying5 Tryz.underlying9
    have vb := fun dd os => (rb.below (below_regrown W9 dd os)).conv (P := Tryz.prog) cb 29 5 9 Tryz.underlying29 Tryz.underlying5 Tryz.underlying9
    have vx := fun dd os => (rx7.below (below_regrown W9 dd os)).conv (P := Tryz.prog) cx 29 5 9 Tryz.underlying29 Tryz.underlying5 Tryz.underlying9
    have vz := fun dd os => (rz.below (below_regrown W9 dd os)).conv (P := Tryz.prog) cz 29 5 9 Tryz.underlying29 Tryz.underlying5 Tryz.underlying9
    have IS := Lib.hid (show ImS ⟨H, rs⟩ from ⟨⟨HRS.out.1, HR.out.hp.tp, HI.out.1⟩, HRS.out.2, HI.out.2⟩)
    have IT := Lib.hid (show ImS ⟨H3, rs3⟩ from ⟨⟨HRTt.out.1, RT.hp.tp, HI3.out.1⟩, HRTt.out.2, HI3.out.2⟩)
    simp only [sval, scs, hcs, List.cons_append, List.nil_append] at cT
    simp only [hval, hcs] at cK
    clear a0 a1 a2 a3 a4 a5 a6 a7 a8 d0 d1 d2' d3' d4 d5 d6 d7 d8 L4 L5 RT ra rb rx7 rz B7
    by_cases hh1 : H = H3
    · have hXZ : X = Z := by rw [HX.out, HZ.out, hh1]
      have hdk : decide (H = H3) = true := decide_eq_true hh1
      simp only [hdk] at cK
      subst hXZ
      by_cases hh2 : rs = rs3
      · have hYY : Ya = Yb := by rw [HYa.out, HYb.out, hh1, hh2]
        have hdt : decide ((⟨H, rs⟩ : St) = ⟨H3, rs3⟩) = true := decide_eq_true (by rw [hh1, hh2])
        simp only [hdt] at cT
        subst hYY
        clear hh1 hh2 hdk hdt
        have mixed := mixedP
        refine wp_region_quiet_below mixed (by kernel_rfl) ?_
        repeat (go_big_quiet_step (first | exact cS _ _ | exact cH _ _ | exact cT _ _ | exact cK _ _))
        refine wpQuiet_nil ?_
        intro _ hw'
        obtain ⟨⟨dq, osq⟩, rfl⟩ := hw'
        have bq := Lib.hid (HB9.out.trans ((below_regrown W9 dq osq).mono HB9.out.size))
        clear cS cH cT cK
        go_wp2
        go_ret
        exact ⟨rfl, bq.out⟩
      · have hdt : decide ((⟨H, rs⟩ : St) = ⟨H3, rs3⟩) = false := decide_eq_false fun e => hh2 (congrArg St.rs e)
        have hy : Ya ≠ Yb := fun e => by
          rw [HYa.out, HYb.out] at e
          exact hh2 (congrArg St.rs (IS.out.inj IT.out e))
        have hne : (Ya == Yb) = false := by simp [hy]
        clear hy
        simp only [hdt] at cT
        clear hh1 hh2 hdk hdt
        have mixed := mixedP
        refine wp_region_quiet_below mixed (by kernel_rfl) ?_
        repeat (go_big_quiet_step (first | exact cS _ _ | exact cH _ _ | exact cT _ _ | exact cK _ _))
        refine wpQuiet_nil ?_
        intro _ hw'
        obtain ⟨⟨dq, osq⟩, rfl⟩ := hw'
        have bq := Lib.hid (HB9.out.trans ((below_regrown W9 dq osq).mono HB9.out.size))
        clear cS cH cT cK
        go_wp2
        go_ret
        exact ⟨rfl, bq.out⟩
    · have hdk : decide (H = H3) = false := decide_eq_false hh1
      have hdt : decide ((⟨H, rs⟩ : St) = ⟨H3, rs3⟩) = false := decide_eq_false fun e => hh1 (congrArg St.hp e)
      have hy : Ya ≠ Yb := fun e => by
        rw [HYa.out, HYb.out] at e
        exact hh1 (congrArg St.hp (IS.out.inj IT.out e))
      have hx : X ≠ Z := fun e => by
        rw [HX.out, HZ.out] at e
        exact hh1 (IS.out.hp.inj IT.out.hp e)
      have hne : (Ya == Yb) = false := by simp [hy]
      have hne2 : (X == Z) = false := by simp [hx]
      clear hy hx
      simp only [hdt] at cT
      simp only [hdk] at cK
      clear hh1 hdk hdt
      have mixed := mixedP
      refine wp_region_quiet_below mixed (by kernel_rfl) ?_
      repeat (go_big_quiet_step (first | exact cS _ _ | exact cH _ _ | exact cT _ _ | exact cK _ _))
      refine wpQuiet_nil ?_
      intro _ hw'
      obtain ⟨⟨dq, osq⟩, rfl⟩ := hw'
      have bq := Lib.hid (HB9.out.trans ((below_regrown W9 dq osq).mono HB9.out.size))
      clear cS cH cT cK
      go_wp2
      go_ret
      exact ⟨rfl, bq.out⟩
end Go.Proofs.YtlnmmklpccppmaaGreatDoor

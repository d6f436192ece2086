/-
  A heap that is laid and read goes on as one that never was: the walk of the statement.
-/
import Derived.Test.YtlnmmklpccppmaaGreatDoorMg53
import Derived.Test.YtlnmmklpccppmaaGreatDoorMg54
import Derived.Test.YtlnmmklpccppmaaGreatDoorMg39
import Derived.Test.YtlnmmklpccppmaaGreatDoorMg28
namespace Go.Proofs.YtlnmmklpccppmaaGreatDoor
open Go.RowKit

/-- A heap and what was told in boxes of their own, and the heap's box is a new one. -/
def BxG (w0 : Nat) (wr : World) (H' : Hp) (rc rv : Int) (v6 v7 : Value) (wc : World) : Prop :=
  BxRel w0 wr H' rc rv v6 v7 wc ∧ ∃ q, wr.heap.size ≤ q ∧ v6 = .pointer (some ⟨q, 0, none⟩)
section
variable {w0 : Nat} {wr V W5 : World} {s' : HSl} {os' : List (Ob × OSl)} {H' : Hp} {rc rv : Int}
theorem bxg_a1 (h0 : w0 ≤ wr.heap.size) (hV : Below wr.heap.size wr V) (O : OwnHp W5 V.heap.size s' os' H') (b : Below V.heap.size V W5) :
    BxG w0 wr H' rc rv (.pointer (some ⟨W5.heap.size, 0, none⟩)) (.pointer (some ⟨W5.heap.size + 1, 0, none⟩)) ((W5.alloc (.cells (hcs H' s').toArray 26)).alloc (.cells #[.int .i64 rc, .int .i64 rv] 59)) :=
  ⟨bx_a1 h0 hV O b, _, Nat.le_trans hV.size b.size, rfl⟩
theorem bxg_a2 (h0 : w0 ≤ wr.heap.size) (hV : Below wr.heap.size wr V) (O : OwnHp W5 V.heap.size s' os' H') (b : Below V.heap.size V W5) :
    BxG w0 wr H' rc rv (.pointer (some ⟨W5.heap.size + 1, 0, none⟩)) (.pointer (some ⟨W5.heap.size, 0, none⟩)) ((W5.alloc (.cells #[.int .i64 rc, .int .i64 rv] 59)).alloc (.cells (hcs H' s').toArray 26)) :=
  ⟨bx_a2 h0 hV O b, _, Nat.le_succ_of_le (Nat.le_trans hV.size b.size), rfl⟩
theorem bxg_b {p6 : Nat} (h0 : w0 ≤ wr.heap.size) (hV : Below wr.heap.size wr V) (O : OwnHp W5 V.heap.size s' os' H') (b : Below V.heap.size V W5) (K6 : Whole V p6 26 zcs) (h6 : wr.heap.size ≤ p6) :
    BxG w0 wr H' rc rv (.pointer (some ⟨p6, 0, none⟩)) (.pointer (some ⟨W5.heap.size, 0, none⟩)) ((set8 W5 p6 H' s').alloc (.cells #[.int .i64 rc, .int .i64 rv] 59)) := ⟨bx_b h0 hV O b K6 h6, _, h6, rfl⟩
theorem bxg_c {p7 : Nat} (h0 : w0 ≤ wr.heap.size) (hV : Below wr.heap.size wr V) (O : OwnHp W5 V.heap.size s' os' H') (b : Below V.heap.size V W5) (K7 : Whole V p7 59 rcs) (h7 : wr.heap.size ≤ p7) :
    BxG w0 wr H' rc rv (.pointer (some ⟨W5.heap.size, 0, none⟩)) (.pointer (some ⟨p7, 0, none⟩)) ((set2 W5 p7 rc rv).alloc (.cells (hcs H' s').toArray 26)) := ⟨bx_c h0 hV O b K7 h7, _, Nat.le_trans hV.size b.size, rfl⟩
theorem bxg_d {p6 p7 : Nat} (h0 : w0 ≤ wr.heap.size) (hV : Below wr.heap.size wr V) (O : OwnHp W5 V.heap.size s' os' H') (b : Below V.heap.size V W5) (K6 : Whole V p6 26 zcs) (h6 : wr.heap.size ≤ p6) (K7 : Whole V p7 59 rcs) (h7 : wr.heap.size ≤ p7) (hne : p6 ≠ p7) :
    BxG w0 wr H' rc rv (.pointer (some ⟨p6, 0, none⟩)) (.pointer (some ⟨p7, 0, none⟩)) (set2 (set8 W5 p6 H' s') p7 rc rv) := ⟨bx_d h0 hV O b K6 h6 K7 h7 hne, _, h6, rfl⟩
end
/-- Between the operations: two boxes with the same heap. -/
def GoRel (w : World) (p q : Nat) (m : Nat) (i : Value) (wr : World) : Prop :=
  ∃ (k : Nat) (H : Hp) (s t : HSl), k ≤ m ∧ i = .int .i64 (k : Int) ∧ RightH H ∧ RdH wr s H ∧ RdH wr t H ∧ Whole wr p 26 (hcs H s) ∧ Whole wr q 26 (hcs H t) ∧ Below w.heap.size w wr
theorem go_store {w w0 wc : World} {p : Nat} {X' : Hp} {s' : HSl} {os' : List (Ob × OSl)} {a0 a1 a2 a3 a4 a5 a6 a7 : Value} (O' : OwnHp wc w.heap.size s' os' X') (K5 : Whole wc p 26 [a0, a1, a2, a3, a4, a5, a6, a7]) (BW : Below w0.heap.size w0 wc) (h5 : w0.heap.size ≤ p) :
    OwnHp (set8 wc p X' s') w.heap.size s' os' X' ∧ Whole (set8 wc p X' s') p 26 (hcs X' s') ∧ Below w0.heap.size w0 (set8 wc p X' s') ∧ wc.grownBy (set8 wc p X' s') (some p) := by
  obtain ⟨k1, gs⟩ := set8_any (H := X') (s := s') K5
  exact ⟨O'.other K5 gs, k1, below_grown BW gs BW.size h5, gs⟩

set_option maxRecDepth 100000 in
set_option maxHeartbeats 8000000 in
theorem imageGoes_walk (s : HSl) (H : Hp) (A : Option Addr) (m c : Nat) (w : World) (hT : Tab w) (h : RdH w s H) (hI : IntsH H) (hl : IsOps w A m) :
    Calls Tryz.prog 7 #[hval H s, .slice A m c] w (Holds w) := by
  obtain ⟨l, hl⟩ := hl
  have g1 := (Below.refl w.heap.size w).alloc (Nat.le_refl _) (.cells (hcs H s).toArray 26)
  have K0 := Whole.new w (hcs H s).toArray 26
  have S1 := refBig_any s H _ (h.below g1)
  have HT := Lib.hid hT
  have HR := Lib.hid h
  have HI := Lib.hid hI
  have HL := Lib.hid hl
  have mixed := mixedP
  clear hT h hI hl
  obtain ⟨A0, n0, c0, F0, m0, d0⟩ := s
  simp only [hval, hcs] at *
  go_enter Tryz.func7, Tryz.ntmps7
  go_wp2_with fail
  obtain ⟨p, hp⟩ : ∃ p, p = w.heap.size := ⟨_, rfl⟩
  rw [← hp] at K0 ⊢
  have Hp5 := Lib.hid (Nat.le_of_eq hp.symm)
  generalize w.alloc (.cells #[.int .i64 H.od, .slice A0 n0 c0, .int .i64 H.nx, .int .i64 (tget H 0), .int .i64 (tget H 1), .int .i64 (tget H 2), .int .i64 (tget H 3), .slice F0 m0 d0] 26) = W at g1 K0 S1 ⊢
  clear hp
  refine Calls.mono S1 ?_
  rintro e w1 ⟨q, rfl, hq, gr1⟩
  have b1 := gr1.below
  have B1 := g1.trans (b1.mono g1.size)
  have K1 := K0.below b1
  cases q with
  | true =>
    clear K1 K0 S1
    go_wp2
    go_ret
    exact ⟨rfl, B1⟩
  | false =>
  have hS := Lib.hid (hq rfl)
  by_cases hm : m ≤ 60
  case neg =>
    have hmi : (60 : Int) < (m : Int) := by omega
    clear K1 K0 S1
    go_wp2
    go_ret
    exact ⟨rfl, B1⟩
  have hmi : ¬ ((60 : Int) < (m : Int)) := by omega
  have Hm60 := Lib.hid hm
  have S3 := putHeap_any ⟨A0, n0, c0, F0, m0, d0⟩ H w1 (HR.out.below B1) hS.out (HT.out.below B1) HI.out
  simp only [hval, hcs] at S3
  obtain ⟨c0', c1, c2, c3, c4, c5, c6, c7⟩ := K1.eight
  clear S1 K0 hq gr1 b1 g1
  go_wp2_with fail
  refine S3.mono ?_
  rintro e w2 ⟨b2, hput⟩
  have B2 := B1.trans (b2.mono B1.size)
  have K2 := K1.below b2
  clear S3 c0' c1 c2 c3 c4 c5 c6 c7 K1
  rcases hput with ⟨hR, v4, rfl, o4⟩ | ⟨hR, rfl⟩
  case inr =>
    have S4 := getHeap_any none 0 0 [] w2 Rd.nil (by omega) (HT.out.below B2)
    go_wp2_with fail
    refine S4.mono ?_
    rintro e w3 ⟨b3, hgot⟩
    obtain rfl : e = .returned (.tuple #[.agg zcs.toArray, .int .i64 60]) := by
      rcases hgot with ⟨H, s, os, he, ho, hg⟩ | ⟨he, _⟩
      · cases gets_nil.uniq hg
      · exact he
    have B3 := B2.trans (b3.mono B2.size)
    have B4 := B3.alloc B3.size (.cells #[.int .i64 0, .slice none 0 0, .int .i64 0, .int .i64 0, .int .i64 0, .int .i64 0, .int .i64 0, .slice none 0 0] 26)
    simp only [zcs]
    clear hgot S4 b3 b2 K2 B2
    go_wp2_with fail
    refine (heaps_holds _ (HT.out.below B4)).mono ?_
    rintro e w9 ⟨rfl, b9⟩
    have B10 := Lib.hid (B4.trans (b9.mono B4.size))
    clear B4 b9 B3
    go_wp2
    go_ret
    exact ⟨rfl, B10.out⟩
  obtain ⟨Y, hY⟩ : ∃ Y, Y = encH H := ⟨_, rfl⟩
  have hyl := Lib.hid (show Y.length ≤ 65536 by rw [hY]; exact (show ImH H from ⟨hR, HR.out.tp, HI.out⟩).size)
  rw [← hY] at o4
  have hy := Lib.hid hY
  have HRt := Lib.hid hR
  clear hY hR
  obtain ⟨A4, cc4, rfl, _, _, r4⟩ := o4.shape
  have S4 := getHeap_any A4 Y.length cc4 Y w2 r4 (Nat.le_trans hyl.out (by decide)) (HT.out.below B2)
  clear o4
  go_wp2_with fail
  refine S4.mono ?_
  rintro e w3 ⟨b3, hgot⟩
  obtain ⟨s7, os7, rfl, O7⟩ : ∃ s os, e = .returned (.tuple #[hval H s, .int .i64 0]) ∧ OwnHp w3 w2.heap.size s os H := by
    have hg0 : GetsH Y (some H) := ⟨⟨HRt.out, HR.out.tp, HI.out⟩, hy.out.symm⟩
    rcases hgot with ⟨G, s, os, he, ho, hg⟩ | ⟨_, hg⟩
    · have := hg0.uniq hg
      injection this with this
      subst this
      exact ⟨s, os, he, ho⟩
    · cases hg0.uniq hg
  obtain ⟨A7, n7, c7, F7, m7, d7⟩ := s7
  simp only [hval, hcs]
  have B3 := B2.trans (b3.mono B2.size)
  have gY := (Below.refl w3.heap.size w3).alloc (Nat.le_refl _) (.cells #[.int .i64 H.od, .slice A7 n7 c7, .int .i64 H.nx, .int .i64 (tget H 0), .int .i64 (tget H 1), .int .i64 (tget H 2), .int .i64 (tget H 3), .slice F7 m7 d7] 26)
  have KY := Whole.new w3 #[.int .i64 H.od, .slice A7 n7 c7, .int .i64 H.nx, .int .i64 (tget H 0), .int .i64 (tget H 1), .int .i64 (tget H 2), .int .i64 (tget H 3), .slice F7 m7 d7] 26
  have R8 := O7.rd.below gY
  have B8 := B3.trans (gY.mono B3.size)
  have K8 := (K2.below b3).below gY
  have hpq := Lib.hid (show p ≠ w3.heap.size from fun e => by have := (K2.below b3).lt; omega)
  obtain ⟨q, hq⟩ : ∃ q, q = w3.heap.size := ⟨_, rfl⟩
  have Hq := Lib.hid (show w.heap.size ≤ q by rw [hq]; exact B3.size)
  clear hgot O7 S4 r4 b3 b2
  go_upto_region 5 with (fail)
  rw [← hq] at KY hpq ⊢
  generalize w3.alloc (.cells #[.int .i64 H.od, .slice A7 n7 c7, .int .i64 H.nx, .int .i64 (tget H 0), .int .i64 (tget H 1), .int .i64 (tget H 2), .int .i64 (tget H 3), .slice F7 m7 d7] 26) = W8 at gY KY R8 B8 K8 ⊢
  have ST := Lib.hid (show GoRel w p q m (.int .i64 0) W8 from ⟨0, H, ⟨A0, n0, c0, F0, m0, d0⟩, ⟨A7, n7, c7, F7, m7, d7⟩, Nat.zero_le _, rfl, HRt.out, HR.out.below B8, R8, K8, KY, B8⟩)
  clear hq B3 B2 B1 K2 gY KY R8 B8 K8 HRt hy hyl hmi
  go_upto_region 10 with (fail)
  go_loopw [9] (GoRel w p q m) (fun i _ => m - (intOf i).toNat)
  case atStart => exact ST.out
  case round =>
    clear ST
    clear HR HI hS

    obtain ⟨k, H, s, t, hk, rfl, hR, rs, rt, Kp, Kq, bw⟩ := hrel
    by_cases hlt : k < m
    case neg =>
      obtain rfl : k = m := by omega
      have B2 := Lib.hid bw
      clear hR rs rt Kp Kq bw
      go_wp2_with (go_at_call 14; refine (heaps_holds _ (HT.out.below B2.out)).mono ?_; rintro e w3 ⟨rfl, b3⟩)
      go_ret
      exact ⟨rfl, B2.out.trans (b3.mono B2.out.size)⟩
    obtain ⟨bp, off, o, rfl, hbl, ho, hcells⟩ := (HL.out.below bw).get hlt
    obtain ⟨ok, oh, oi, on, okk, ov, ot⟩ := o
    obtain ⟨z0, z1, z2, z3, z4, z5, z6⟩ : _ ∧ _ ∧ _ ∧ _ ∧ _ ∧ _ ∧ _ := ⟨hcells 0 (.int .i64 ok) rfl, hcells 1 (.int .i64 oh) rfl, hcells 2 (.int .i64 oi) rfl, hcells 3 (.int .i64 on) rfl, hcells 4 (.int .i64 okk) rfl, hcells 5 (.int .i64 ov) rfl, hcells 6 (.int .i64 ot) rfl⟩
    simp only [Nat.add_zero] at z0
    obtain ⟨A5, n5, c5, F5, m5, d5⟩ := s
    obtain ⟨A9, n9, c9, F9, m9, d9⟩ := t
    have S := Lib.hid fun (W' : World) (b : Below wr.heap.size wr W') => (by
      have h1 := do_heap ⟨A5, n5, c5, F5, m5, d5⟩ H ⟨ok, oh, oi, on, okk, ov, ot⟩ W' (rs.below b) (right_small hR) (HT.out.below (bw.trans (b.mono bw.size)))
      rw [doH_right hR] at h1
      exact h1 : Calls Tryz.prog 33 #[hval H ⟨A5, n5, c5, F5, m5, d5⟩, opv ⟨ok, oh, oi, on, okk, ov, ot⟩] W' (InPost W' W'.heap.size (doneH H ⟨ok, oh, oi, on, okk, ov, ot⟩)))
    have U := Lib.hid fun (W' : World) (b : Below wr.heap.size wr W') => (by
      have h1 := do_heap ⟨A9, n9, c9, F9, m9, d9⟩ H ⟨ok, oh, oi, on, okk, ov, ot⟩ W' (rt.below b) (right_small hR) (HT.out.below (bw.trans (b.mono bw.size)))
      rw [doH_right hR] at h1
      exact h1 : Calls Tryz.prog 33 #[hval H ⟨A9, n9, c9, F9, m9, d9⟩, opv ⟨ok, oh, oi, on, okk, ov, ot⟩] W' (InPost W' W'.heap.size (doneH H ⟨ok, oh, oi, on, okk, ov, ot⟩)))
    have hR2 := (doneH_right hR ⟨ok, oh, oi, on, okk, ov, ot⟩).1
    generalize doneH H ⟨ok, oh, oi, on, okk, ov, ot⟩ = rr at S U hR2
    obtain ⟨H', rc, rv⟩ := rr
    simp only at hR2
    simp only [hval, hcs, opv, opcs] at S U Kp Kq
    have HR2 := Lib.hid hR2
    have HKP := Lib.hid Kp
    have HKQ := Lib.hid Kq
    have HBW := Lib.hid bw
    have Hbl := Lib.hid hbl
    have hki : (k : Int) < (m : Int) := by omega
    clear hR rs rt Kp Kq bw hR2 hcells ho hbl
    have mkS := Lib.hid fun (W : World) (bl : Below wr.heap.size wr W) => (by
      obtain ⟨e0, e1, e2, e3, e4, e5, e6, e7⟩ := (HKP.out.below bl).eight
      exact ⟨e0, e1, e2, e3, e4, e5, e6, e7, (bl.cell (p := ⟨bp, off + k * 7, none⟩) Hbl.out).trans z0, (bl.cell (p := ⟨bp, off + k * 7 + 1, none⟩) Hbl.out).trans z1, (bl.cell (p := ⟨bp, off + k * 7 + 2, none⟩) Hbl.out).trans z2, (bl.cell (p := ⟨bp, off + k * 7 + 3, none⟩) Hbl.out).trans z3, (bl.cell (p := ⟨bp, off + k * 7 + 4, none⟩) Hbl.out).trans z4, (bl.cell (p := ⟨bp, off + k * 7 + 5, none⟩) Hbl.out).trans z5, (bl.cell (p := ⟨bp, off + k * 7 + 6, none⟩) Hbl.out).trans z6⟩ : W.cell? ⟨p, 0, none⟩ = some (.int .i64 H.od) ∧ W.cell? ⟨p, 1, none⟩ = some (.slice A5 n5 c5) ∧ W.cell? ⟨p, 2, none⟩ = some (.int .i64 H.nx) ∧ W.cell? ⟨p, 3, none⟩ = some (.int .i64 (tget H 0)) ∧ W.cell? ⟨p, 4, none⟩ = some (.int .i64 (tget H 1)) ∧ W.cell? ⟨p, 5, none⟩ = some (.int .i64 (tget H 2)) ∧ W.cell? ⟨p, 6, none⟩ = some (.int .i64 (tget H 3)) ∧ W.cell? ⟨p, 7, none⟩ = some (.slice F5 m5 d5) ∧ W.cell? ⟨bp, off + k * 7, none⟩ = some (.int .i64 ok) ∧ W.cell? ⟨bp, off + k * 7 + 1, none⟩ = some (.int .i64 oh) ∧ W.cell? ⟨bp, off + k * 7 + 2, none⟩ = some (.int .i64 oi) ∧ W.cell? ⟨bp, off + k * 7 + 3, none⟩ = some (.int .i64 on) ∧ W.cell? ⟨bp, off + k * 7 + 4, none⟩ = some (.int .i64 okk) ∧ W.cell? ⟨bp, off + k * 7 + 5, none⟩ = some (.int .i64 ov) ∧ W.cell? ⟨bp, off + k * 7 + 6, none⟩ = some (.int .i64 ot))
    have Zs := Lib.hid (And.intro z0 (And.intro z1 (And.intro z2 (And.intro z3 (And.intro z4 (And.intro z5 z6))))))
    clear z0 z1 z2 z3 z4 z5 z6
    go_upto_region 12 with (fail)
    go_cut [10, 11] (BxG w.heap.size wr H' rc rv)
    case first =>
      repeat (rename ∀ (a : Act) (w : World), Code.wp _ _ _ a w → _ => hh; clear hh)
      go_region_held3 (fun W => W.cell? ⟨p, 0, none⟩ = some (.int .i64 H.od) ∧ W.cell? ⟨p, 1, none⟩ = some (.slice A5 n5 c5) ∧ W.cell? ⟨p, 2, none⟩ = some (.int .i64 H.nx) ∧ W.cell? ⟨p, 3, none⟩ = some (.int .i64 (tget H 0)) ∧ W.cell? ⟨p, 4, none⟩ = some (.int .i64 (tget H 1)) ∧ W.cell? ⟨p, 5, none⟩ = some (.int .i64 (tget H 2)) ∧ W.cell? ⟨p, 6, none⟩ = some (.int .i64 (tget H 3)) ∧ W.cell? ⟨p, 7, none⟩ = some (.slice F5 m5 d5) ∧ W.cell? ⟨bp, off + k * 7, none⟩ = some (.int .i64 ok) ∧ W.cell? ⟨bp, off + k * 7 + 1, none⟩ = some (.int .i64 oh) ∧ W.cell? ⟨bp, off + k * 7 + 2, none⟩ = some (.int .i64 oi) ∧ W.cell? ⟨bp, off + k * 7 + 3, none⟩ = some (.int .i64 on) ∧ W.cell? ⟨bp, off + k * 7 + 4, none⟩ = some (.int .i64 okk) ∧ W.cell? ⟨bp, off + k * 7 + 5, none⟩ = some (.int .i64 ov) ∧ W.cell? ⟨bp, off + k * 7 + 6, none⟩ = some (.int .i64 ot)) (((with_reducible refine mkS.out _ ?_); first | ((repeat (first | (with_reducible refine bel_alloc ?_ _) | (with_reducible refine Below.setCell ?_ (by dsimp only; first | omega | (simp; omega)) _) | (with_reducible refine Below.drew ?_))); first | (with_reducible exact Below.refl _ _) | (with_reducible exact HB5.out)) | ((repeat (first | (with_reducible refine bel_alloc ?_ _) | (with_reducible refine Below.setCell ?_ (by dsimp only; first | omega | (simp; omega)) _) | (with_reducible refine Below.drew ?_))); first | (with_reducible exact Below.refl _ _) | (with_reducible exact trivial)))) ((go_at_call 33; (with_reducible refine Calls.mono (S.out _ (by ((repeat (first | (with_reducible refine bel_alloc ?_ _) | (with_reducible refine Below.setCell ?_ (by dsimp only; first | omega | (simp; omega)) _) | (with_reducible refine Below.drew ?_))); first | (with_reducible exact Below.refl _ _) | (with_reducible exact trivial)))) ?_); rintro e w5 ⟨⟨A6, n6, c6', F6, k6, d6⟩, os6, rfl, O6, b6⟩; simp only [hval, hcs]; have hV := Lib.hid (bel_is (w := wr) (by ((repeat (first | (with_reducible refine bel_alloc ?_ _) | (with_reducible refine Below.setCell ?_ (by dsimp only; first | omega | (simp; omega)) _) | (with_reducible refine Below.drew ?_))); first | (with_reducible exact Below.refl _ _) | (with_reducible exact trivial))) b6); have HB5 := Lib.hid (hV.out.trans (b6.mono hV.out.size)); have hz5 := HB5.out.size; (try (have V6 := whole_is (t := 26) (cs := zcs) (by ((repeat (first | ((with_reducible apply whole_new'); rfl) | (with_reducible apply Whole.alloc) | (with_reducible apply Whole.drew))); first | done | (with_reducible exact trivial))) b6; (try simp only [size_alloc] at V6); have HV6 := Lib.hid V6; have M6 := V6.below b6; obtain ⟨m0, m1, m2, m3, m4, m5, m6, m7⟩ := M6.eight; have mf := M6.free; have ml := M6.lt; have mn := Nat.ne_of_lt M6.lt; have mn' := (Nat.ne_of_lt M6.lt).symm; have m0A := fun o => Lib.cell?_alloc_some o m0; have m1A := fun o => Lib.cell?_alloc_some o m1; have m2A := fun o => Lib.cell?_alloc_some o m2; have m3A := fun o => Lib.cell?_alloc_some o m3; have m4A := fun o => Lib.cell?_alloc_some o m4; have m5A := fun o => Lib.cell?_alloc_some o m5; have m6A := fun o => Lib.cell?_alloc_some o m6; have m7A := fun o => Lib.cell?_alloc_some o m7; have mfA := fun (o : Obj) j => (M6.alloc o).free j; clear M6 V6)); (try (have V7 := whole_is (t := 59) (cs := rcs) (by ((repeat (first | ((with_reducible apply whole_new'); rfl) | (with_reducible apply Whole.alloc) | (with_reducible apply Whole.drew))); first | done | (with_reducible exact trivial))) b6; (try simp only [size_alloc] at V7); have HV7 := Lib.hid V7; have M7 := V7.below b6; obtain ⟨q0, q1⟩ := M7.two'; have qf := M7.free; have ql := M7.lt; have qn := Nat.ne_of_lt M7.lt; have qn' := (Nat.ne_of_lt M7.lt).symm; have q0A := fun o => Lib.cell?_alloc_some o q0; have q1A := fun o => Lib.cell?_alloc_some o q1; have qfA := fun (o : Obj) j => (M7.alloc o).free j; clear M7 V7)); (try (have hbb := box_beside (HV6.out.below b6) (b0 := .int .i64 0) (b1 := .int .i64 0) (HV7.out.below b6); have qs0 := hbb.1; have qs1 := hbb.2.1; have qsf := hbb.2.2; clear hbb))))
      · go_wp2_with fail
        go_meet
        exact bxg_a1 HBW.out.size hV.out O6 b6
      · go_wp2_with fail
        go_meet
        exact bxg_a2 HBW.out.size hV.out O6 b6
      · go_wp2_with fail
        go_meet
        have hb := bxg_b (rc := rc) (rv := rv) HBW.out.size hV.out O6 b6 HV6.out (by omega); (try unfold set2 at hb); (try unfold set8 at hb); (try simp only at hb); exact hb
      · go_wp2_with fail
        go_meet
        have hb := bxg_d (rc := rc) (rv := rv) HBW.out.size hV.out O6 b6 HV6.out (by omega) HV7.out (by omega) (by omega); (try unfold set2 at hb); (try unfold set8 at hb); (try simp only at hb); exact hb
      · go_wp2_with fail
        go_meet
        have hb := bxg_c (rc := rc) (rv := rv) HBW.out.size hV.out O6 b6 HV7.out (by omega); (try unfold set2 at hb); (try unfold set8 at hb); (try simp only [hcs] at hb); exact hb
      · go_wp2_with fail
        go_meet
        have hb := bxg_d (rc := rc) (rv := rv) HBW.out.size hV.out O6 b6 HV6.out (by omega) HV7.out (by omega) (by omega); (try unfold set2 at hb); (try unfold set8 at hb); (try simp only at hb); exact hb
    case rest =>
      obtain ⟨⟨s', os', p8, p9, rfl, rfl, O', K8, K9, bl⟩, q8, hq8, he8⟩ := hcut
      injection he8 with he8
      injection he8 with he8
      injection he8 with he8
      subst he8
      rename World => V1
      have HB1 := Lib.hid (HBW.out.trans (bl.mono HBW.out.size))
      have HKP1 := Lib.hid (HKP.out.below bl)
      have HKQ1 := Lib.hid (HKQ.out.below bl)
      have HO1 := Lib.hid O'
      have HK8 := Lib.hid K8
      have HK9 := Lib.hid K9
      have Hb1 := Lib.hid (show bp < V1.heap.size from Nat.lt_of_lt_of_le Hbl.out bl.size)
      have U1 := Lib.hid fun (W' : World) (b : Below V1.heap.size V1 W') => U.out W' (bl.trans (b.mono bl.size))
      obtain ⟨y0, y1, y2, y3, y4, y5, y6⟩ : _ ∧ _ ∧ _ ∧ _ ∧ _ ∧ _ ∧ _ := ⟨(bl.cell (p := ⟨bp, off + k * 7, none⟩) Hbl.out).trans Zs.out.1, (bl.cell (p := ⟨bp, off + k * 7 + 1, none⟩) Hbl.out).trans Zs.out.2.1, (bl.cell (p := ⟨bp, off + k * 7 + 2, none⟩) Hbl.out).trans Zs.out.2.2.1, (bl.cell (p := ⟨bp, off + k * 7 + 3, none⟩) Hbl.out).trans Zs.out.2.2.2.1, (bl.cell (p := ⟨bp, off + k * 7 + 4, none⟩) Hbl.out).trans Zs.out.2.2.2.2.1, (bl.cell (p := ⟨bp, off + k * 7 + 5, none⟩) Hbl.out).trans Zs.out.2.2.2.2.2.1, (bl.cell (p := ⟨bp, off + k * 7 + 6, none⟩) Hbl.out).trans Zs.out.2.2.2.2.2.2⟩
      have mkT := Lib.hid fun (W : World) (bl : Below V1.heap.size V1 W) => (by
        obtain ⟨e0, e1, e2, e3, e4, e5, e6, e7⟩ := (HKQ1.out.below bl).eight
        exact ⟨e0, e1, e2, e3, e4, e5, e6, e7, (bl.cell (p := ⟨bp, off + k * 7, none⟩) Hb1.out).trans y0, (bl.cell (p := ⟨bp, off + k * 7 + 1, none⟩) Hb1.out).trans y1, (bl.cell (p := ⟨bp, off + k * 7 + 2, none⟩) Hb1.out).trans y2, (bl.cell (p := ⟨bp, off + k * 7 + 3, none⟩) Hb1.out).trans y3, (bl.cell (p := ⟨bp, off + k * 7 + 4, none⟩) Hb1.out).trans y4, (bl.cell (p := ⟨bp, off + k * 7 + 5, none⟩) Hb1.out).trans y5, (bl.cell (p := ⟨bp, off + k * 7 + 6, none⟩) Hb1.out).trans y6⟩ : W.cell? ⟨q, 0, none⟩ = some (.int .i64 H.od) ∧ W.cell? ⟨q, 1, none⟩ = some (.slice A9 n9 c9) ∧ W.cell? ⟨q, 2, none⟩ = some (.int .i64 H.nx) ∧ W.cell? ⟨q, 3, none⟩ = some (.int .i64 (tget H 0)) ∧ W.cell? ⟨q, 4, none⟩ = some (.int .i64 (tget H 1)) ∧ W.cell? ⟨q, 5, none⟩ = some (.int .i64 (tget H 2)) ∧ W.cell? ⟨q, 6, none⟩ = some (.int .i64 (tget H 3)) ∧ W.cell? ⟨q, 7, none⟩ = some (.slice F9 m9 d9) ∧ W.cell? ⟨bp, off + k * 7, none⟩ = some (.int .i64 ok) ∧ W.cell? ⟨bp, off + k * 7 + 1, none⟩ = some (.int .i64 oh) ∧ W.cell? ⟨bp, off + k * 7 + 2, none⟩ = some (.int .i64 oi) ∧ W.cell? ⟨bp, off + k * 7 + 3, none⟩ = some (.int .i64 on) ∧ W.cell? ⟨bp, off + k * 7 + 4, none⟩ = some (.int .i64 okk) ∧ W.cell? ⟨bp, off + k * 7 + 5, none⟩ = some (.int .i64 ov) ∧ W.cell? ⟨bp, off + k * 7 + 6, none⟩ = some (.int .i64 ot))
      clear y0 y1 y2 y3 y4 y5 y6 O' K8 K9 bl S mkS HBW HKP HKQ U hq8
      go_upto_region 13 with (fail)
      go_cut [12, 13] (BxG w.heap.size V1 H' rc rv)
      case first =>
        repeat (rename ∀ (a : Act) (w : World), Code.wp _ _ _ a w → _ => hh; clear hh)
        go_region_held3 (fun W => W.cell? ⟨q, 0, none⟩ = some (.int .i64 H.od) ∧ W.cell? ⟨q, 1, none⟩ = some (.slice A9 n9 c9) ∧ W.cell? ⟨q, 2, none⟩ = some (.int .i64 H.nx) ∧ W.cell? ⟨q, 3, none⟩ = some (.int .i64 (tget H 0)) ∧ W.cell? ⟨q, 4, none⟩ = some (.int .i64 (tget H 1)) ∧ W.cell? ⟨q, 5, none⟩ = some (.int .i64 (tget H 2)) ∧ W.cell? ⟨q, 6, none⟩ = some (.int .i64 (tget H 3)) ∧ W.cell? ⟨q, 7, none⟩ = some (.slice F9 m9 d9) ∧ W.cell? ⟨bp, off + k * 7, none⟩ = some (.int .i64 ok) ∧ W.cell? ⟨bp, off + k * 7 + 1, none⟩ = some (.int .i64 oh) ∧ W.cell? ⟨bp, off + k * 7 + 2, none⟩ = some (.int .i64 oi) ∧ W.cell? ⟨bp, off + k * 7 + 3, none⟩ = some (.int .i64 on) ∧ W.cell? ⟨bp, off + k * 7 + 4, none⟩ = some (.int .i64 okk) ∧ W.cell? ⟨bp, off + k * 7 + 5, none⟩ = some (.int .i64 ov) ∧ W.cell? ⟨bp, off + k * 7 + 6, none⟩ = some (.int .i64 ot)) (((with_reducible refine mkT.out _ ?_); first | ((repeat (first | (with_reducible refine bel_alloc ?_ _) | (with_reducible refine Below.setCell ?_ (by dsimp only; first | omega | (simp; omega)) _) | (with_reducible refine Below.drew ?_))); first | (with_reducible exact Below.refl _ _) | (with_reducible exact HB5.out)) | ((repeat (first | (with_reducible refine bel_alloc ?_ _) | (with_reducible refine Below.setCell ?_ (by dsimp only; first | omega | (simp; omega)) _) | (with_reducible refine Below.drew ?_))); first | (with_reducible exact Below.refl _ _) | (with_reducible exact trivial)))) ((go_at_call 33; (with_reducible refine Calls.mono (U1.out _ (by ((repeat (first | (with_reducible refine bel_alloc ?_ _) | (with_reducible refine Below.setCell ?_ (by dsimp only; first | omega | (simp; omega)) _) | (with_reducible refine Below.drew ?_))); first | (with_reducible exact Below.refl _ _) | (with_reducible exact trivial)))) ?_); rintro e w5 ⟨⟨A6, n6, c6', F6, k6, d6⟩, os6, rfl, O6, b6⟩; simp only [hval, hcs]; have hV := Lib.hid (bel_is (w := V1) (by ((repeat (first | (with_reducible refine bel_alloc ?_ _) | (with_reducible refine Below.setCell ?_ (by dsimp only; first | omega | (simp; omega)) _) | (with_reducible refine Below.drew ?_))); first | (with_reducible exact Below.refl _ _) | (with_reducible exact trivial))) b6); have HB5 := Lib.hid (hV.out.trans (b6.mono hV.out.size)); have hz5 := HB5.out.size; (try (have V6 := whole_is (t := 26) (cs := zcs) (by ((repeat (first | ((with_reducible apply whole_new'); rfl) | (with_reducible apply Whole.alloc) | (with_reducible apply Whole.drew))); first | done | (with_reducible exact trivial))) b6; (try simp only [size_alloc] at V6); have HV6 := Lib.hid V6; have M6 := V6.below b6; obtain ⟨m0, m1, m2, m3, m4, m5, m6, m7⟩ := M6.eight; have mf := M6.free; have ml := M6.lt; have mn := Nat.ne_of_lt M6.lt; have mn' := (Nat.ne_of_lt M6.lt).symm; have m0A := fun o => Lib.cell?_alloc_some o m0; have m1A := fun o => Lib.cell?_alloc_some o m1; have m2A := fun o => Lib.cell?_alloc_some o m2; have m3A := fun o => Lib.cell?_alloc_some o m3; have m4A := fun o => Lib.cell?_alloc_some o m4; have m5A := fun o => Lib.cell?_alloc_some o m5; have m6A := fun o => Lib.cell?_alloc_some o m6; have m7A := fun o => Lib.cell?_alloc_some o m7; have mfA := fun (o : Obj) j => (M6.alloc o).free j; clear M6 V6)); (try (have V7 := whole_is (t := 59) (cs := rcs) (by ((repeat (first | ((with_reducible apply whole_new'); rfl) | (with_reducible apply Whole.alloc) | (with_reducible apply Whole.drew))); first | done | (with_reducible exact trivial))) b6; (try simp only [size_alloc] at V7); have HV7 := Lib.hid V7; have M7 := V7.below b6; obtain ⟨q0, q1⟩ := M7.two'; have qf := M7.free; have ql := M7.lt; have qn := Nat.ne_of_lt M7.lt; have qn' := (Nat.ne_of_lt M7.lt).symm; have q0A := fun o => Lib.cell?_alloc_some o q0; have q1A := fun o => Lib.cell?_alloc_some o q1; have qfA := fun (o : Obj) j => (M7.alloc o).free j; clear M7 V7)); (try (have hbb := box_beside (HV6.out.below b6) (b0 := .int .i64 0) (b1 := .int .i64 0) (HV7.out.below b6); have qs0 := hbb.1; have qs1 := hbb.2.1; have qsf := hbb.2.2; clear hbb))))
        · go_wp2_with fail
          go_meet
          exact bxg_a1 HB1.out.size hV.out O6 b6
        · go_wp2_with fail
          go_meet
          exact bxg_a2 HB1.out.size hV.out O6 b6
        · go_wp2_with fail
          go_meet
          have hb := bxg_b (rc := rc) (rv := rv) HB1.out.size hV.out O6 b6 HV6.out (by omega); (try unfold set2 at hb); (try unfold set8 at hb); (try simp only at hb); exact hb
        · go_wp2_with fail
          go_meet
          have hb := bxg_d (rc := rc) (rv := rv) HB1.out.size hV.out O6 b6 HV6.out (by omega) HV7.out (by omega) (by omega); (try unfold set2 at hb); (try unfold set8 at hb); (try simp only at hb); exact hb
        · go_wp2_with fail
          go_meet
          have hb := bxg_c (rc := rc) (rv := rv) HB1.out.size hV.out O6 b6 HV7.out (by omega); (try unfold set2 at hb); (try unfold set8 at hb); (try simp only [hcs] at hb); exact hb
        · go_wp2_with fail
          go_meet
          have hb := bxg_d (rc := rc) (rv := rv) HB1.out.size hV.out O6 b6 HV6.out (by omega) HV7.out (by omega) (by omega); (try unfold set2 at hb); (try unfold set8 at hb); (try simp only at hb); exact hb
      case rest =>
        obtain ⟨⟨t', ot', p6, p7, rfl, rfl, O2, K6, K7, bl⟩, q6, hq6, he6⟩ := hcut
        injection he6 with he6
        injection he6 with he6
        injection he6 with he6
        subst he6
        have kp := HKP1.out.below bl
        have kq := HKQ1.out.below bl
        have O1 := HO1.out.below bl
        have k8 := HK8.out.below bl
        have k9 := HK9.out.below bl
        have hb := HB1.out.trans (bl.mono HB1.out.size)
        have hp6 : p6 ≠ p := by have := HKP1.out.lt; omega
        obtain ⟨r0, r1⟩ := k9.two'
        obtain ⟨u0, u1⟩ := K7.two'
        have run := run_neq_res rc rv rc rv
        rw [show (!sameB (rc, rv) (rc, rv)) = false by simp [sameB]] at run
        obtain ⟨A1, n1, c1, F1, m1, d1⟩ := s'
        obtain ⟨A2, n2, c2, F2, m2, d2⟩ := t'
        have HSM := refSameH_any ⟨A1, n1, c1, F1, m1, d1⟩ ⟨A2, n2, c2, F2, m2, d2⟩ H' H' wc O1.rd O2.rd (right_small HR2.out)
        rw [decide_eq_true rfl] at HSM
        simp only [hval, hcs] at HSM k8 K6
        obtain ⟨e0, e1, e2, e3, e4, e5, e6, e7⟩ := k8.eight
        obtain ⟨f0, f1, f2, f3, f4, f5, f6, f7⟩ := K6.eight
        have Hk8 := Lib.hid k8
        have HK6 := Lib.hid K6
        have Hkp := Lib.hid kp
        have Hkq := Lib.hid kq
        have HO1' := Lib.hid O1
        have HO2 := Lib.hid O2
        have Hb := Lib.hid hb
        clear k8 k9 kp kq K6 K7 O1 O2 hb bl U1 mkT HB1 HKP1 HKQ1 HO1 HK8 HK9 Zs hq6 mixed
        go_wp2_with fail
        refine HSM.mono ?_
        rintro e w3 ⟨rfl, g3⟩
        have bl := g3.below
        have kp := Hkp.out.below bl
        have kq := Hkq.out.below bl
        have O1 := HO1'.out.below bl
        have O2 := HO2.out.below bl
        have k8 := Hk8.out.below bl
        have k6 := HK6.out.below bl
        have hb := Hb.out.trans (bl.mono Hb.out.size)
        clear HSM run r0 r1 u0 u1 e0 e1 e2 e3 e4 e5 e6 e7 f0 f1 f2 f3 f4 f5 f6 f7 g3 bl Hk8 HK6 Hkp Hkq HO1' HO2 Hb
        obtain ⟨e0, e1, e2, e3, e4, e5, e6, e7⟩ := k8.eight
        obtain ⟨f0, f1, f2, f3, f4, f5, f6, f7⟩ := kp.eight
        have ff := kp.free
        obtain ⟨O3, kp3, hb3, g3⟩ := go_store O1 kp hb Hp5.out
        have HO2 := Lib.hid (O2.other kp g3)
        have Hkq3 := Lib.hid (kq.grown g3 hpq.out.symm)
        have Hk63 := Lib.hid (k6.grown g3 hp6)
        unfold set8 at O3 kp3 hb3 HO2 Hkq3 Hk63
        simp only [hcs] at O3 kp3 hb3 HO2 Hkq3 Hk63
        have HO3 := Lib.hid O3
        have Hkp3 := Lib.hid kp3
        have Hb3 := Lib.hid hb3
        clear O1 O2 kp kq k8 k6 hb O3 kp3 hb3 g3
        go_upto_region 17 with (fail)
        clear e0 e1 e2 e3 e4 e5 e6 e7 f0 f1 f2 f3 f4 f5 f6 f7 ff
        generalize ((((((((w3.setCell ⟨p, 0, none⟩ _).setCell ⟨p, 1, none⟩ _).setCell ⟨p, 2, none⟩ _).setCell ⟨p, 3, none⟩ _).setCell ⟨p, 4, none⟩ _).setCell ⟨p, 5, none⟩ _).setCell ⟨p, 6, none⟩ _).setCell ⟨p, 7, none⟩ _) = W4 at HO2 Hkq3 Hk63 HO3 Hkp3 Hb3 ⊢
        obtain ⟨e0, e1, e2, e3, e4, e5, e6, e7⟩ := Hk63.out.eight
        obtain ⟨f0, f1, f2, f3, f4, f5, f6, f7⟩ := Hkq3.out.eight
        have ff := Hkq3.out.free
        obtain ⟨O4, kq4, hb4, g4⟩ := go_store HO2.out Hkq3.out Hb3.out Hq.out
        have O5 := HO3.out.other Hkq3.out g4
        have kp4 := Hkp3.out.grown g4 hpq.out
        have HF := Lib.hid (show GoRel w p q m (.int .i64 ((k + 1 : Nat) : Int)) _ from ⟨k + 1, H', ⟨A1, n1, c1, F1, m1, d1⟩, ⟨A2, n2, c2, F2, m2, d2⟩, by omega, rfl, HR2.out, O5.rd, O4.rd, kp4, kq4, hb4⟩)
        unfold set8 at HF
        simp only at HF
        have hki1 : IntKind.i64.wrap ((k : Int) + 1) = ((k + 1 : Nat) : Int) := by rw [IntKind.wrap_i64]; have := Hm60.out; omega
        clear O4 kq4 hb4 g4 O5 kp4 HO2 Hkq3 Hk63 HO3 Hkp3 Hb3
        go_wp2_with fail
        go_roundw
        case rel => first | exact HF.out | (have h9 := HF.out; push_cast at h9; exact h9)
        case measure => simp [intOf]; omega
end Go.Proofs.YtlnmmklpccppmaaGreatDoor

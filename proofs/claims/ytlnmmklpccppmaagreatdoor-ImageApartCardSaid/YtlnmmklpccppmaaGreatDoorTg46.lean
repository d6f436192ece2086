/-
  GetHeap, and what the statements ask of heaps at one of them.
-/
import Derived.Test.YtlnmmklpccppmaaGreatDoorTg43
import Derived.Test.YtlnmmklpccppmaaGreatDoorTg44
namespace Go.Proofs.YtlnmmklpccppmaaGreatDoor
open Go.RowKit
set_option maxHeartbeats 2000000 in
theorem getHeap_any (A : Option Addr) (n c : Nat) (b : List UInt8) (w : World) (hb : Rd w A n b) (hn : n ≤ 70368744177664) (hT : Tab w) :
    Calls Tryz.prog 15 #[.slice A n c] w (GotH w b) := by
  go_enter Tryz.func15, Tryz.ntmps15
  go_wp2_with fail
  have KR := Whole.new w #[.int .i64 0, .slice none 0 0, .int .i64 0, .int .i64 0, .int .i64 0, .int .i64 0, .int .i64 0, .slice none 0 0] 26
  have B0 := (Below.refl w.heap.size w).alloc (Nat.le_refl _) (.cells #[.int .i64 0, .slice none 0 0, .int .i64 0, .int .i64 0, .int .i64 0, .int .i64 0, .int .i64 0, .slice none 0 0] 26)
  generalize w.alloc (.cells #[.int .i64 0, .slice none 0 0, .int .i64 0, .int .i64 0, .int .i64 0, .int .i64 0, .int .i64 0, .slice none 0 0] 26) = W at KR B0 ⊢
  refine (wholeH_any A n c b W (hb.below B0) hn (hT.below B0)).mono ?_
  rintro e w1 ⟨hB, he⟩
  have KR1 := KR.below hB
  have B1 := B0.trans (hB.mono B0.size)
  have hlt := KR.lt
  rcases he with ⟨H, ⟨Ao, no, co, AF, nF, cF⟩, os, rfl, O1, hG⟩ | ⟨rfl, hG⟩
  · have Hg := Lib.hid hG
    have p0 := KR1.cell 0
    have z0 := KR1.free 0
    have p1 := KR1.cell 1
    have z1 := KR1.free 1
    have p2 := KR1.cell 2
    have z2 := KR1.free 2
    have p3 := KR1.cell 3
    have z3 := KR1.free 3
    have p4 := KR1.cell 4
    have z4 := KR1.free 4
    have p5 := KR1.cell 5
    have z5 := KR1.free 5
    have p6 := KR1.cell 6
    have z6 := KR1.free 6
    have p7 := KR1.cell 7
    have z7 := KR1.free 7
    have G7 := (grown_trans (grown_trans (grown_trans (grown_trans (grown_trans (grown_trans (grown_trans (grown_set w1 w.heap.size 0 (.int .i64 H.od)) (grown_set _ w.heap.size 1 (.slice Ao no co))) (grown_set _ w.heap.size 2 (.int .i64 H.nx))) (grown_set _ w.heap.size 3 (.int .i64 (tget H 0)))) (grown_set _ w.heap.size 4 (.int .i64 (tget H 1)))) (grown_set _ w.heap.size 5 (.int .i64 (tget H 2)))) (grown_set _ w.heap.size 6 (.int .i64 (tget H 3)))) (grown_set _ w.heap.size 7 (.slice AF nF cF)))
    have K7 := ((((((((KR1.set 0 (.int .i64 H.od)).set 1 (.slice Ao no co)).set 2 (.int .i64 H.nx)).set 3 (.int .i64 (tget H 0))).set 4 (.int .i64 (tget H 1))).set 5 (.int .i64 (tget H 2))).set 6 (.int .i64 (tget H 3))).set 7 (.slice AF nF cF))
    have O7 := (O1.grownI G7 hlt).mono (base' := w.heap.size) (Nat.le_of_lt hlt)
    have H7 := Lib.hid (And.intro K7 (And.intro (below_grown B1 G7 B1.size (Nat.le_refl _)) O7))
    clear K7 G7 O7 O1 KR KR1 B0 B1 hB hG
    simp only [hval, hcs]
    go_wp2
    refine bodyPost_ret (results_c2 rfl _ _ _ _ rfl H7.out.1 Tryz.underlying26 (by kernel_rfl)) rfl ?_
    exact ⟨H7.out.2.1, .inl ⟨H, ⟨Ao, no, co, AF, nF, cF⟩, os, rfl, H7.out.2.2, Hg.out⟩⟩
  · have Hg := Lib.hid hG
    have p0 := KR1.cell 0
    have z0 := KR1.free 0
    have p1 := KR1.cell 1
    have z1 := KR1.free 1
    have p2 := KR1.cell 2
    have z2 := KR1.free 2
    have p3 := KR1.cell 3
    have z3 := KR1.free 3
    have p4 := KR1.cell 4
    have z4 := KR1.free 4
    have p5 := KR1.cell 5
    have z5 := KR1.free 5
    have p6 := KR1.cell 6
    have z6 := KR1.free 6
    have p7 := KR1.cell 7
    have z7 := KR1.free 7
    have G7 := (grown_trans (grown_trans (grown_trans (grown_trans (grown_trans (grown_trans (grown_trans (grown_set w1 w.heap.size 0 (.int .i64 0)) (grown_set _ w.heap.size 1 (.slice none 0 0))) (grown_set _ w.heap.size 2 (.int .i64 0))) (grown_set _ w.heap.size 3 (.int .i64 0))) (grown_set _ w.heap.size 4 (.int .i64 0))) (grown_set _ w.heap.size 5 (.int .i64 0))) (grown_set _ w.heap.size 6 (.int .i64 0))) (grown_set _ w.heap.size 7 (.slice none 0 0)))
    have K7 := ((((((((KR1.set 0 (.int .i64 0)).set 1 (.slice none 0 0)).set 2 (.int .i64 0)).set 3 (.int .i64 0)).set 4 (.int .i64 0)).set 5 (.int .i64 0)).set 6 (.int .i64 0)).set 7 (.slice none 0 0))
    have H7 := Lib.hid (And.intro K7 (below_grown B1 G7 B1.size (Nat.le_refl _)))
    clear K7 G7 KR KR1 B0 B1 hB hG
    simp only [zcs]
    go_wp2
    refine bodyPost_ret (results_c2 rfl _ _ _ _ rfl H7.out.1 Tryz.underlying26 (by kernel_rfl)) rfl ?_
    exact ⟨H7.out.2, .inr ⟨rfl, Hg.out⟩⟩
def newB : List UInt8 := encH (newH 3)
theorem newB_len : newB.length = 28 := by decide +kernel
theorem newB_3 : newB[3]? = some 3 := by decide +kernel
theorem newB_7 : newB[7]? = some 1 := by decide +kernel
theorem imH_new : ImH (newH 3) := ⟨right_newH (by omega), rfl, fun x hx => by cases hx⟩
theorem gets_new : GetsH newB (some (newH 3)) := ⟨imH_new, rfl⟩
theorem gets_nil : GetsH [] none := fun H _ e => by
  have := congrArg List.length e
  unfold encH at this
  rw [List.length_append, encN_length] at this
  simp at this
set_option maxHeartbeats 4000000 in
theorem heaps_holds (w : World) (hT : Tab w) : Calls Tryz.prog 14 #[] w (Holds w) := by
  go_enter Tryz.func14, Tryz.ntmps14
  go_wp2_with fail
  refine (new_heap 3 w).mono ?_
  rintro e w1 ⟨⟨A1, n1, c1, F1, m1, d1⟩, rfl, O1, b1⟩
  rw [show newR 3 = newH 3 from rfl] at O1
  rw [show newR 3 = newH 3 from rfl, show newE 3 = 0 from rfl]
  have R1 := O1.rd
  simp only [hval, hcs, newH, tget, List.getD_cons_zero, List.getD_cons_succ]
  go_wp2_with fail
  have bX := (Below.refl w1.heap.size w1).alloc (Nat.le_refl _) (.cells #[.int .i64 3, .slice A1 n1 c1, .int .i64 1, .int .i64 0, .int .i64 0, .int .i64 0, .int .i64 0, .slice F1 m1 d1] 26)
  have B2 := b1.trans (bX.mono b1.size)
  generalize w1.alloc (.cells #[.int .i64 3, .slice A1 n1 c1, .int .i64 1, .int .i64 0, .int .i64 0, .int .i64 0, .int .i64 0, .slice F1 m1 d1] 26) = W2 at bX B2 ⊢
  refine (putHeap_any ⟨A1, n1, c1, F1, m1, d1⟩ (newH 3) W2 (R1.below bX) ⟨by simp [newH], by simp [newH], fun x hx => by cases hx⟩ (hT.below B2) (fun x hx => by cases hx)).mono ?_
  rintro e w3 ⟨b3, hput⟩
  obtain ⟨v3, rfl, o3⟩ : ∃ v, e = .returned (.tuple #[v, .int .i64 0]) ∧ Own 5 w3 W2.heap.size v newB := by
    rcases hput with ⟨_, h⟩ | ⟨h, _⟩
    · exact h
    · exact absurd (right_newH (by omega)) h
  obtain ⟨Ab, cb, rfl, _, _, rb⟩ := o3.shapeN newB_len
  have B3 := B2.trans (b3.mono B2.size)
  clear hput o3 O1 R1 b1 bX b3 B2
  go_wp2_with fail
  refine (getHeap_any Ab 28 cb newB w3 rb (by omega) (hT.below B3)).mono ?_
  rintro e w4 ⟨b4, hgot⟩
  obtain ⟨s4, os4, rfl, O4⟩ : ∃ s os, e = .returned (.tuple #[hval (newH 3) s, .int .i64 0]) ∧ OwnHp w4 w3.heap.size s os (newH 3) := by
    rcases hgot with ⟨H, s, os, he, ho, hg⟩ | ⟨_, hg⟩
    · have := gets_new.uniq hg
      injection this with this
      subst this
      exact ⟨s, os, he, ho⟩
    · cases gets_new.uniq hg
  obtain ⟨A4, n4, c4, F4, m4, d4⟩ := s4
  have hm4 : m4 = 1 := by
    have := O4.rd.fr.len
    simpa [newH] using this.symm
  subst hm4
  have B4 := B3.trans (b4.mono B3.size)
  have rb4 := rb.below b4
  clear hgot O4 rb
  simp only [hval, hcs, newH, tget, List.getD_cons_zero, List.getD_cons_succ]
  go_wp2_with fail
  have KX := Whole.new w4 #[.int .i64 3, .slice A4 n4 c4, .int .i64 1, .int .i64 0, .int .i64 0, .int .i64 0, .int .i64 0, .slice F4 1 d4] 26
  have bX := (Below.refl w4.heap.size w4).alloc (Nat.le_refl _) (.cells #[.int .i64 3, .slice A4 n4 c4, .int .i64 1, .int .i64 0, .int .i64 0, .int .i64 0, .int .i64 0, .slice F4 1 d4] 26)
  have B5 := B4.trans (bX.mono B4.size)
  have rb5 := rb4.below bX
  generalize w4.alloc (.cells #[.int .i64 3, .slice A4 n4 c4, .int .i64 1, .int .i64 0, .int .i64 0, .int .i64 0, .int .i64 0, .slice F4 1 d4] 26) = W5 at KX bX B5 rb5 ⊢
  refine (getHeap_any none 0 0 [] W5 Rd.nil (by omega) (hT.below B5)).mono ?_
  rintro e w6 ⟨b6, hgot⟩
  obtain rfl : e = .returned (.tuple #[.agg zcs.toArray, .int .i64 60]) := by
    rcases hgot with ⟨H, s, os, he, ho, hg⟩ | ⟨he, _⟩
    · cases gets_nil.uniq hg
    · exact he
  have KX6 := KX.below b6
  have rb6 := rb5.below b6
  have B6 := B5.trans (b6.mono B5.size)
  clear hgot KX bX B5 rb5 b6 B4 rb4 B3 b4
  simp only [zcs]
  go_wp2_with fail
  have bY := (Below.refl w6.heap.size w6).alloc (Nat.le_refl _) (.cells #[.int .i64 0, .slice none 0 0, .int .i64 0, .int .i64 0, .int .i64 0, .int .i64 0, .int .i64 0, .slice none 0 0] 26)
  have KX7 := KX6.below bY
  have rb7 := rb6.below bY
  have B7 := B6.trans (bY.mono B6.size)
  generalize w6.alloc (.cells #[.int .i64 0, .slice none 0 0, .int .i64 0, .int .i64 0, .int .i64 0, .int .i64 0, .int .i64 0, .slice none 0 0] 26) = W7 at bY KX7 rb7 B7 ⊢
  refine (putHeap_any ⟨none, 0, 0, none, 0, 0⟩ zeroH W7 ⟨RdO.nil, RdS.nil, rfl, by simp [zeroH]⟩ ⟨by simp [zeroH], by simp [zeroH], fun x hx => by cases hx⟩ (hT.below B7) (fun x hx => by cases hx)).mono ?_
  rintro e w8 ⟨b8, hput⟩
  obtain rfl : e = .returned (.tuple #[.slice none 0 0, .int .i64 60]) := by
    rcases hput with ⟨h, _⟩ | ⟨_, h⟩
    · exact absurd h wrong_zeroH
    · exact h
  have KX8 := KX7.below b8
  have rb8 := rb7.below b8
  have B8 := Lib.hid (B7.trans (b8.mono B7.size))
  obtain ⟨b', off, x3, rfl, _, h3, c3⟩ := rb8.cell (j := 3) (by omega)
  obtain ⟨_, _, x7, e, _, h7, c7⟩ := rb8.cell (j := 7) (by omega)
  injection e with e
  injection e with e1 e2
  subst e1 e2
  rw [newB_3] at h3
  rw [newB_7] at h7
  injection h3 with h3
  injection h7 with h7
  subst h3 h7
  have v2 := KX8.cell 2
  have v7 := KX8.cell 7
  clear hput KX7 KX8 rb7 rb8 b8 bY B7 B6 rb6 KX6
  go_wp2
  go_ret
  exact ⟨rfl, B8.out⟩
end Go.Proofs.YtlnmmklpccppmaaGreatDoor

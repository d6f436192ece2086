/-
  The walk of the law CodeOne.
-/
import Derived.Test.YtllbebbmnjojgaaLawE0
import Derived.Test.YtllbebbmnjojgaaPlain
import Derived.Test.YtllbebbmnjojgaaRegion
import Derived.IntWalk
import Derived.Deep.DeepCutAuto
namespace Go.Proofs.Ytllbebbmnjojgaa
open Go.RowKit

set_option maxHeartbeats 4000000 in
set_option maxRecDepth 100000 in
theorem codeOne_walk (A : Option Addr) (n c : Nat) (l : List UInt8) (w : World) (hl : Rd w A n l) (hnc : n ≤ c) (hcm : c ≤ maxLen) :
    Calls Try.prog 8 #[.slice A n c] w (Holds w) := by
  by_cases hn : 262144 < n
  · go_enter Try.func8, Try.ntmps8
    go_wp2
    go_ret
    exact ⟨rfl, Below.refl _ _⟩
  unfold maxLen at hcm
  have Hl := Lib.hid hl.len
  go_enter Try.func8, Try.ntmps8
  go_wp2_with fail
  refine (new_any A n c l w hl (by omega)).mono ?_
  rintro e w1 ⟨g1, rfl, hg1, hlt1, q1, b1⟩
  go_wp2_with fail
  refine (new_any A n c l w1 (hl.below b1) (by omega)).mono ?_
  rintro e w2 ⟨g2, rfl, hg2, hlt2, q2, b2⟩
  have b2' := b1.trans (b2.mono b1.size)
  go_wp2_with fail
  refine (new_any A n c l w2 (hl.below b2') (by omega)).mono ?_
  rintro e w3 ⟨g3, rfl, hg3, hlt3, q3, b3⟩
  have hb3 := b2'.trans (b3.mono b2'.size)
  have p1 := (q1.below b2).below b3
  have p2 := q2.below b3
  have hl3 := hl.below hb3
  have n12 : g1 ≠ g2 := by omega
  have n13 : g1 ≠ g3 := by omega
  have n23 : g2 ≠ g3 := by omega
  have k1 := b1.size
  have k2 := b2.size
  have m1 : w.heap.size ≤ g1 := hg1
  have m2 : w.heap.size ≤ g2 := by omega
  have m3 : w.heap.size ≤ g3 := by omega
  clear q1 q2 b1 b2 b3 b2' hg1 hg2 hg3 hlt1 hlt2 hlt3 k1 k2
  have N12 := Lib.hid n12
  have N13 := Lib.hid n13
  have N23 := Lib.hid n23
  clear n12 n13 n23 hl
  go_wp2_with fail
  refine (text_any g1 l w3 p1).mono ?_
  rintro e w4 ⟨rfl, q1, s1⟩
  have hb4 := below_step hb3 s1 hb3.size m1
  have q2 := p2.other p1 N12.out.symm s1
  have q3' := q3.other p1 N13.out.symm s1
  have hl4 := hl3.other p1 s1
  clear hb3 s1 p1 p2 q3 hl3
  go_upto_if 39 with (fail)
  go_cut [6, 7] (fun _ _ wc => Rd wc A n l ∧ Rdr wc g2 l ∧ Rdr wc g3 l ∧ Below w.heap.size w wc)
  case first =>
    by_cases he : (rtext l).2.2 = 0
    · obtain ⟨s, hs, hs1, hs2, hs3⟩ := rtext_one he
      rw [hs] at q1 ⊢
      clear he hs
      go_wp2_with fail
      refine (putText_yes none 0 0 [] ⟨s.toArray⟩ w4 Rd.nil (by omega) hs1).mono ?_
      rintro e w5 ⟨v5, rfl, o5, b5⟩
      have e5 : [] ++ be 4 (ByteArray.mk s.toArray).size ++ (ByteArray.mk s.toArray).data.toList = l.take (4 + s.length) := by
        rw [List.nil_append, ← hs2]; rfl
      rw [e5] at o5
      obtain ⟨A5, c5, rfl, _, _, r5⟩ := o5.shapeN (n := 4 + s.length) (by rw [List.length_take]; omega)
      have hl5 := hl4.below b5
      have hb5 := hb4.trans (b5.mono hb4.size)
      have q15 := q1.below b5
      have q25 := q2.below b5
      have q35 := q3'.below b5
      clear hl4 hb4 q1 q2 q3' o5 b5 e5 hs2
      have hs4 : 4 + s.length ≤ n := by rw [← Hl.out]; exact hs3
      clear hs1 hs3
      generalize 4 + s.length = k at *
      have j1 : ∀ nq, (convert 22 9 (.slice A5 k c5)).run Try.prog (w5.drewN nq) = .ok (.string ⟨(l.take k).toArray⟩) (w5.drewN nq) := fun nq =>
        (r5.drewN nq).conv (P := Try.prog) c5 22 5 9 Try.underlying22 Try.underlying5 Try.underlying9
      have hlen : (l.drop k).length = n - k := by rw [List.length_drop, Hl.out]
      have t1 := (hl5.take (k := k) hs4)
      have j2 : ∀ nq, (convert 22 9 (.slice A k c)).run Try.prog (w5.drewN nq) = .ok (.string ⟨(l.take k).toArray⟩) (w5.drewN nq) := fun nq =>
        (t1.drewN nq).conv (P := Try.prog) c 22 5 9 Try.underlying22 Try.underlying5 Try.underlying9
      have HC : Hid (∀ nq, Calls Try.prog 28 #[.pointer (some ⟨g1, 0, none⟩)] (w5.drewN nq) fun e w' => e = .returned (.int .i64 ((n : Int) - (k : Int))) ∧ (w5.drewN nq) = w') := fun nq => by
        have h := left_any g1 _ _ (q15.drewN nq)
        rw [hlen] at h
        rw [show (n : Int) - (k : Int) = ((n - k : Nat) : Int) from by omega]
        exact h
      clear r5 t1 hlen
      have hw1 : IntKind.i64.wrap (k : Int) = (k : Int) := IntWalk.i64_in _ (by omega)
      have hw2 : IntKind.i64.wrap ((n : Int) - ((n : Int) - (k : Int))) = (k : Int) := by rw [show (n : Int) - ((n : Int) - (k : Int)) = k from by omega]; exact hw1
      go_wp2_with fail
      go_quiet ((go_at_call 28; exact quiet_eq (HC.out _)))
      go_wp2_with fail
      go_meet
      case rel => exact ⟨hl5.drewN _, q25.drewN _, q35.drewN _, below_drewN hb5 _⟩
    · have he1 : ((rtext l).2.2 == 0) = false := by simpa using he
      have he2 : ((rtext l).2.2 != 0) = true := by simpa using he
      generalize (rtext l).1 = x1 at *
      generalize (rtext l).2.2 = x3 at *
      go_wp2_with fail
      go_meet
      case rel => exact ⟨hl4, q2, q3', hb4⟩
  case rest =>
    obtain ⟨hl6, q2, q3, hb6⟩ := hcut
    go_wp2_with fail
    refine (number_any g2 l _ q2).mono ?_
    rintro e w6' ⟨rfl, q2', s2⟩
    have hb6' := below_step hb6 s2 hb6.size m2
    have q3' := q3.other q2 N23.out.symm s2
    have hl6' := hl6.other q2 s2
    clear hl6 hb6 q2 q3 s2
    go_upto_if 66 with (fail)
    go_cut [7, 10] (fun _ _ wc => Rd wc A n l ∧ Rdr wc g3 l ∧ Below w.heap.size w wc)
    case first =>
      by_cases hf : (rnum l).2.2 = 0
      · obtain ⟨u, hu, hu1, hu2, hu3⟩ := rnum_one hf
        rw [hu] at q2' ⊢
        clear hf hu
        go_wp2_with fail
        refine (putNumber_yes none 0 0 [] u w6' Rd.nil (by omega) (by omega) (by omega)).mono ?_
        rintro e w7 ⟨v7, rfl, o7, b7⟩
        rw [List.nil_append, Int.toNat_natCast, hu2] at o7
        obtain ⟨A7, c7, rfl, _, _, r7⟩ := o7.shapeN (n := 4) (by rw [List.length_take]; omega)
        have hl7 := hl6'.below b7
        have hb7 := hb6'.trans (b7.mono hb6'.size)
        have q27 := q2'.below b7
        have q37 := q3'.below b7
        clear hl6' hb6' q2' q3' o7 b7 hu2
        have hs4 : 4 ≤ n := by rw [← Hl.out]; exact hu3
        have j1 : ∀ nq, (convert 22 9 (.slice A7 4 c7)).run Try.prog (w7.drewN nq) = .ok (.string ⟨(l.take 4).toArray⟩) (w7.drewN nq) := fun nq =>
          (r7.drewN nq).conv (P := Try.prog) c7 22 5 9 Try.underlying22 Try.underlying5 Try.underlying9
        have hlen : (l.drop 4).length = n - 4 := by rw [List.length_drop, Hl.out]
        have t1 := (hl7.take (k := 4) hs4)
        have j2 : ∀ nq, (convert 22 9 (.slice A 4 c)).run Try.prog (w7.drewN nq) = .ok (.string ⟨(l.take 4).toArray⟩) (w7.drewN nq) := fun nq =>
          (t1.drewN nq).conv (P := Try.prog) c 22 5 9 Try.underlying22 Try.underlying5 Try.underlying9
        have HC : Hid (∀ nq, Calls Try.prog 28 #[.pointer (some ⟨g2, 0, none⟩)] (w7.drewN nq) fun e w' => e = .returned (.int .i64 ((n : Int) - 4)) ∧ (w7.drewN nq) = w') := fun nq => by
          have h := left_any g2 _ _ (q27.drewN nq)
          rw [hlen] at h
          rw [show (n : Int) - 4 = ((n - 4 : Nat) : Int) from by omega]
          exact h
        clear r7 t1 hlen
        have hw2 : IntKind.i64.wrap ((n : Int) - ((n : Int) - 4)) = 4 := by rw [show (n : Int) - ((n : Int) - 4) = 4 from by omega]; exact IntWalk.i64_in _ (by omega)
        go_wp2_with fail
        go_quiet ((go_at_call 28; exact quiet_eq (HC.out _)))
        go_wp2_with fail
        go_meet
        case rel => exact ⟨hl7.drewN _, q37.drewN _, below_drewN hb7 _⟩
      · have he1 : ((rnum l).2.2 == 0) = false := by simpa using hf
        have he2 : ((rnum l).2.2 != 0) = true := by simpa using hf
        generalize (rnum l).1 = x4 at *
        generalize (rnum l).2.2 = x5 at *
        go_wp2_with fail
        go_meet
        case rel => exact ⟨hl6', q3', hb6'⟩
    case rest =>
      obtain ⟨hl7, q7, hb7⟩ := hcut
      go_wp2_with fail
      refine (int_any g3 l _ q7).mono ?_
      rintro e w8 ⟨rfl, p3, s3⟩
      have hb8 := below_step hb7 s3 hb7.size m3
      have hl8 := hl7.other q7 s3
      clear hl7 q7 s3 hb7 q2' q3' hl6' hb6'
      by_cases hi : (rint l).2.2 = 0
      · skip
        obtain ⟨hi1, hi2, hi3⟩ := rint_one hi
        rw [hi1] at p3
        rw [hi]
        generalize (rint l).1 = x8 at *
        clear hi hi1
        have hs8 : 8 ≤ n := by rw [← Hl.out]; exact hi3
        have hlen : (l.drop 8).length = n - 8 := by rw [List.length_drop, Hl.out]
        have HL : Hid (∀ W : World, Rdr W g3 (l.drop 8) → Calls Try.prog 28 #[.pointer (some ⟨g3, 0, none⟩)] W fun e w' => e = .returned (.int .i64 ((n : Int) - 8)) ∧ W = w') := fun W hq => by
          have h := left_any g3 _ W hq
          rw [hlen] at h
          rw [show (n : Int) - 8 = ((n - 8 : Nat) : Int) from by omega]
          exact h
        have HJ : Hid (∀ W : World, Rd W A n l → (convert 22 9 (.slice A 8 c)).run Try.prog W = .ok (.string ⟨(l.take 8).toArray⟩) W) := fun W hr =>
          (hr.take (k := 8) hs8).conv (P := Try.prog) c 22 5 9 Try.underlying22 Try.underlying5 Try.underlying9
        have HP : Hid (∀ W : World, Calls Try.prog 17 #[.slice none 0 0, .int .i64 x8] W fun e w' => ∃ A' c', e = .returned (.slice A' 8 c') ∧ (convert 22 9 (.slice A' 8 c')).run Try.prog w' = .ok (.string ⟨(l.take 8).toArray⟩) w' ∧ Below W.heap.size W w') := fun W => by
          refine (putInt_any none 0 0 [] x8 W Rd.nil (by omega)).mono ?_
          rintro e w' ⟨v, rfl, o, b⟩
          rw [List.nil_append, hi2] at o
          obtain ⟨A', c', rfl, _, _, r⟩ := o.shapeN (n := 8) (by rw [List.length_take]; omega)
          exact ⟨A', c', rfl, r.conv (P := Try.prog) c' 22 5 9 Try.underlying22 Try.underlying5 Try.underlying9, b⟩
        clear hi2 hi3 hlen
        have hw2 : IntKind.i64.wrap ((n : Int) - ((n : Int) - 8)) = 8 := by rw [show (n : Int) - ((n : Int) - 8) = 8 from by omega]; exact IntWalk.i64_in _ (by omega)
        have hc8 : (8 : Int) ≤ (c : Int) := by omega
        have pd := p3.drew
        have hd := hl8.drew
        have bd := hb8.drew
        clear p3 hl8 hb8
        go_wp2_with fail
        refine wp_region_any (by kernel_rfl) ?_
        change wpAny _ _ _ _ _ _ _ (World.drew _)
        refine wpAny_ready (rs := [0]) (by kernel_rfl) (by simp) ?_
        refine AllReady.cons rfl (fun K hK => ?_) (AllReady.nil)
        go_simp
        go_wp2_with (go_at_call 15; refine (puts_any _).mono ?_; rintro e wp ⟨rfl, bp⟩)
        have pp := pd.below bp
        have hp := hd.below bp
        have bbp := bd.trans (bp.mono bd.size)
        clear pd hd bd bp
        refine take_put (i := 1) (d := 93) (v := ?_) rfl rfl (by kernel_rfl) (by kernel_rfl) (by kernel_rfl) (fun _ _ _ h => h) (Or.inl ⟨by rfl, ?_⟩) ?_
        rotate_left
        · intro w; go_simp; with_reducible rfl
        conv =>
          arg 7
          simp only [List.setIfInBounds_toArray, List.set_cons_succ, List.set_cons_zero]
        refine wpAny_ready (rs := [2]) (by kernel_rfl) (by simp) ?_
        refine AllReady.cons rfl (fun K hK => ?_) (AllReady.nil)
        go_simp
        go_wp2_with (go_at_call 29; refine (reads_any _).mono ?_; rintro e wq ⟨rfl, br⟩)
        have pr := pp.below br
        have hr := hp.below br
        have bbr := bbp.trans (br.mono bbp.size)
        clear pp hp bbp br
        refine take_put (i := 3) (d := 95) (v := ?_) rfl rfl (by kernel_rfl) (by kernel_rfl) (by kernel_rfl) (fun _ _ _ h => h) (Or.inl ⟨by rfl, ?_⟩) ?_
        rotate_left
        · intro w; go_simp; with_reducible rfl
        conv =>
          arg 7
          simp only [List.setIfInBounds_toArray, List.set_cons_succ, List.set_cons_zero]
        refine take_put (i := 4) (d := 96) (v := ?_) rfl rfl (by kernel_rfl) (by kernel_rfl) (by kernel_rfl) (fun _ _ _ h => h) (Or.inl ⟨by rfl, ?_⟩) ?_
        rotate_left
        · intro w; go_simp; with_reducible rfl
        conv =>
          arg 7
          simp only [List.setIfInBounds_toArray, List.set_cons_succ, List.set_cons_zero]
        refine take_put (i := 5) (d := 97) (v := ?_) rfl rfl (by kernel_rfl) (by kernel_rfl) (by kernel_rfl) (fun _ _ _ h => h) (Or.inl ⟨by rfl, ?_⟩) ?_
        rotate_left
        · intro w; go_simp; with_reducible rfl
        conv =>
          arg 7
          simp only [List.setIfInBounds_toArray, List.set_cons_succ, List.set_cons_zero]
        refine take_put (i := 6) (d := 98) (v := ?_) rfl rfl (by kernel_rfl) (by kernel_rfl) (by kernel_rfl) (fun _ _ _ h => h) (Or.inl ⟨by rfl, ?_⟩) ?_
        rotate_left
        · intro w; go_simp; with_reducible rfl
        conv =>
          arg 7
          simp only [List.setIfInBounds_toArray, List.set_cons_succ, List.set_cons_zero]
        refine take_put (i := 7) (d := 99) (v := ?_) rfl rfl (by kernel_rfl) (by kernel_rfl) (by kernel_rfl) (fun _ _ _ h => h) (Or.inl ⟨by rfl, ?_⟩) ?_
        rotate_left
        · intro w; go_simp; with_reducible rfl
        conv =>
          arg 7
          simp only [List.setIfInBounds_toArray, List.set_cons_succ, List.set_cons_zero]
        refine take_put (i := 8) (d := 100) (v := ?_) rfl rfl (by kernel_rfl) (by kernel_rfl) (by kernel_rfl) (fun _ _ _ h => h) (Or.inl ⟨by rfl, ?_⟩) ?_
        rotate_left
        · intro w; go_simp; with_reducible rfl
        conv =>
          arg 7
          simp only [List.setIfInBounds_toArray, List.set_cons_succ, List.set_cons_zero]
        refine take_put (i := 11) (d := 103) (v := ?_) rfl rfl (by kernel_rfl) (by kernel_rfl) (by kernel_rfl) (fun _ _ _ h => h) (Or.inl ⟨by rfl, ?_⟩) ?_
        rotate_left
        · intro w; go_simp; with_reducible rfl
        conv =>
          arg 7
          simp only [List.setIfInBounds_toArray, List.set_cons_succ, List.set_cons_zero]
        refine take_put (i := 12) (d := 104) (v := ?_) rfl rfl (by kernel_rfl) (by kernel_rfl) (by kernel_rfl) (fun _ _ _ h => h) (Or.inl ⟨by rfl, ?_⟩) ?_
        rotate_left
        · intro w; go_simp; with_reducible rfl
        conv =>
          arg 7
          simp only [List.setIfInBounds_toArray, List.set_cons_succ, List.set_cons_zero]
        refine take_put (i := 13) (d := 105) (v := ?_) rfl rfl (by kernel_rfl) (by kernel_rfl) (by kernel_rfl) (fun _ _ _ h => h) (Or.inl ⟨by rfl, ?_⟩) ?_
        rotate_left
        · intro w; go_simp; with_reducible rfl
        conv =>
          arg 7
          simp only [List.setIfInBounds_toArray, List.set_cons_succ, List.set_cons_zero]
        refine take_put (i := 14) (d := 106) (v := ?_) rfl rfl (by kernel_rfl) (by kernel_rfl) (by kernel_rfl) (fun _ _ _ h => h) (Or.inl ⟨by rfl, ?_⟩) ?_
        rotate_left
        · intro w; go_simp; with_reducible rfl
        conv =>
          arg 7
          simp only [List.setIfInBounds_toArray, List.set_cons_succ, List.set_cons_zero]
        refine wpAny_ready (rs := [9]) (by kernel_rfl) (by simp) ?_
        refine AllReady.cons rfl (fun K hK => ?_) (AllReady.nil)
        go_simp
        go_wp2_with (go_at_call 17; refine Calls.mono (HP.out _) ?_; rintro e wi ⟨A9, c9, rfl, j9, bi⟩)
        have pi := pr.below bi
        have ji := HJ.out _ (hr.below bi)
        have bbi := bbr.trans (bi.mono bbr.size)
        clear bi
        refine wpAny_ready (rs := [10, 15]) (by kernel_rfl) (by simp) ?_
        refine AllReady.cons rfl (fun K hK => ?_) (AllReady.cons rfl (fun K hK => ?_) (AllReady.nil))
        · skip
          go_simp
          refine hK _ _ ?_
          clear hK K
          refine wpAny_ready (rs := [15]) (by kernel_rfl) (by simp) ?_
          refine AllReady.cons rfl (fun K hK => ?_) (AllReady.nil)
          go_simp
          go_wp2_with (go_at_call 28; refine Calls.mono (HL.out _ pi) ?_; rintro e wl ⟨rfl, rfl⟩)
          refine take_put (i := 16) (d := 108) (v := ?_) rfl rfl (by kernel_rfl) (by kernel_rfl) (by kernel_rfl) (fun _ _ _ h => h) (Or.inl ⟨by rfl, ?_⟩) ?_
          rotate_left
          · intro w; go_simp; with_reducible rfl
          conv =>
            arg 7
            simp only [List.setIfInBounds_toArray, List.set_cons_succ, List.set_cons_zero]
          refine take_put (i := 17) (d := 109) (v := ?_) rfl rfl (by kernel_rfl) (by kernel_rfl) (by kernel_rfl) (fun _ _ _ h => h) (Or.inl ⟨by rfl, ?_⟩) ?_
          rotate_left
          · intro w; go_simp; with_reducible rfl
          conv =>
            arg 7
            simp only [List.setIfInBounds_toArray, List.set_cons_succ, List.set_cons_zero]
          refine wpAny_ready (rs := [18]) (by kernel_rfl) (by simp) ?_
          refine AllReady.cons rfl (fun K hK => ?_) (AllReady.nil)
          go_simp
          refine hK _ _ ?_
          clear hK K
          refine take_put (i := 19) (d := 111) (v := ?_) rfl rfl (by kernel_rfl) (by kernel_rfl) (by kernel_rfl) (fun _ _ _ h => h) (Or.inl ⟨by rfl, ?_⟩) ?_
          rotate_left
          · intro w; go_simp; with_reducible rfl
          conv =>
            arg 7
            simp only [List.setIfInBounds_toArray, List.set_cons_succ, List.set_cons_zero]
          refine take_put (i := 20) (d := 112) (v := ?_) rfl rfl (by kernel_rfl) (by kernel_rfl) (by kernel_rfl) (fun _ _ _ h => h) (Or.inl ⟨by rfl, ?_⟩) ?_
          rotate_left
          · intro w; go_simp; with_reducible rfl
          conv =>
            arg 7
            simp only [List.setIfInBounds_toArray, List.set_cons_succ, List.set_cons_zero]
          refine take_put (i := 21) (d := 113) (v := ?_) rfl rfl (by kernel_rfl) (by kernel_rfl) (by kernel_rfl) (fun _ _ _ h => h) (Or.inl ⟨by rfl, ?_⟩) ?_
          rotate_left
          · intro w; go_simp; with_reducible rfl
          conv =>
            arg 7
            simp only [List.setIfInBounds_toArray, List.set_cons_succ, List.set_cons_zero]
          refine take_put (i := 22) (d := 2) (v := ?_) rfl rfl (by kernel_rfl) (by kernel_rfl) (by kernel_rfl) (fun _ _ _ h => h) (Or.inl ⟨by rfl, ?_⟩) ?_
          rotate_left
          · intro w; go_simp; with_reducible rfl
          conv =>
            arg 7
            simp only [List.setIfInBounds_toArray, List.set_cons_succ, List.set_cons_zero]
          refine wpAny_done (by kernel_rfl) ?_ _
          go_wp2
          go_ret
          exact ⟨rfl, bbi⟩
        · skip
          go_simp
          go_wp2_with (go_at_call 28; refine Calls.mono (HL.out _ pi) ?_; rintro e wl ⟨rfl, rfl⟩)
          refine take_put (i := 16) (d := 108) (v := ?_) rfl rfl (by kernel_rfl) (by kernel_rfl) (by kernel_rfl) (fun _ _ _ h => h) (Or.inl ⟨by rfl, ?_⟩) ?_
          rotate_left
          · intro w; go_simp; with_reducible rfl
          conv =>
            arg 7
            simp only [List.setIfInBounds_toArray, List.set_cons_succ, List.set_cons_zero]
          refine take_put (i := 17) (d := 109) (v := ?_) rfl rfl (by kernel_rfl) (by kernel_rfl) (by kernel_rfl) (fun _ _ _ h => h) (Or.inl ⟨by rfl, ?_⟩) ?_
          rotate_left
          · intro w; go_simp; with_reducible rfl
          conv =>
            arg 7
            simp only [List.setIfInBounds_toArray, List.set_cons_succ, List.set_cons_zero]
          refine wpAny_ready (rs := [10, 18]) (by kernel_rfl) (by simp) ?_
          refine AllReady.cons rfl (fun K hK => ?_) (AllReady.cons rfl (fun K hK => ?_) (AllReady.nil))
          · skip
            go_simp
            refine hK _ _ ?_
            clear hK K
            refine wpAny_ready (rs := [18]) (by kernel_rfl) (by simp) ?_
            refine AllReady.cons rfl (fun K hK => ?_) (AllReady.nil)
            go_simp
            refine hK _ _ ?_
            clear hK K
            refine take_put (i := 19) (d := 111) (v := ?_) rfl rfl (by kernel_rfl) (by kernel_rfl) (by kernel_rfl) (fun _ _ _ h => h) (Or.inl ⟨by rfl, ?_⟩) ?_
            rotate_left
            · intro w; go_simp; with_reducible rfl
            conv =>
              arg 7
              simp only [List.setIfInBounds_toArray, List.set_cons_succ, List.set_cons_zero]
            refine take_put (i := 20) (d := 112) (v := ?_) rfl rfl (by kernel_rfl) (by kernel_rfl) (by kernel_rfl) (fun _ _ _ h => h) (Or.inl ⟨by rfl, ?_⟩) ?_
            rotate_left
            · intro w; go_simp; with_reducible rfl
            conv =>
              arg 7
              simp only [List.setIfInBounds_toArray, List.set_cons_succ, List.set_cons_zero]
            refine take_put (i := 21) (d := 113) (v := ?_) rfl rfl (by kernel_rfl) (by kernel_rfl) (by kernel_rfl) (fun _ _ _ h => h) (Or.inl ⟨by rfl, ?_⟩) ?_
            rotate_left
            · intro w; go_simp; with_reducible rfl
            conv =>
              arg 7
              simp only [List.setIfInBounds_toArray, List.set_cons_succ, List.set_cons_zero]
            refine take_put (i := 22) (d := 2) (v := ?_) rfl rfl (by kernel_rfl) (by kernel_rfl) (by kernel_rfl) (fun _ _ _ h => h) (Or.inl ⟨by rfl, ?_⟩) ?_
            rotate_left
            · intro w; go_simp; with_reducible rfl
            conv =>
              arg 7
              simp only [List.setIfInBounds_toArray, List.set_cons_succ, List.set_cons_zero]
            refine wpAny_done (by kernel_rfl) ?_ _
            go_wp2
            go_ret
            exact ⟨rfl, bbi⟩
          · skip
            go_simp
            refine hK _ _ ?_
            clear hK K
            refine wpAny_ready (rs := [10]) (by kernel_rfl) (by simp) ?_
            refine AllReady.cons rfl (fun K hK => ?_) (AllReady.nil)
            go_simp
            refine hK _ _ ?_
            clear hK K
            refine take_put (i := 19) (d := 111) (v := ?_) rfl rfl (by kernel_rfl) (by kernel_rfl) (by kernel_rfl) (fun _ _ _ h => h) (Or.inl ⟨by rfl, ?_⟩) ?_
            rotate_left
            · intro w; go_simp; with_reducible rfl
            conv =>
              arg 7
              simp only [List.setIfInBounds_toArray, List.set_cons_succ, List.set_cons_zero]
            refine take_put (i := 20) (d := 112) (v := ?_) rfl rfl (by kernel_rfl) (by kernel_rfl) (by kernel_rfl) (fun _ _ _ h => h) (Or.inl ⟨by rfl, ?_⟩) ?_
            rotate_left
            · intro w; go_simp; with_reducible rfl
            conv =>
              arg 7
              simp only [List.setIfInBounds_toArray, List.set_cons_succ, List.set_cons_zero]
            refine take_put (i := 21) (d := 113) (v := ?_) rfl rfl (by kernel_rfl) (by kernel_rfl) (by kernel_rfl) (fun _ _ _ h => h) (Or.inl ⟨by rfl, ?_⟩) ?_
            rotate_left
            · intro w; go_simp; with_reducible rfl
            conv =>
              arg 7
              simp only [List.setIfInBounds_toArray, List.set_cons_succ, List.set_cons_zero]
            refine take_put (i := 22) (d := 2) (v := ?_) rfl rfl (by kernel_rfl) (by kernel_rfl) (by kernel_rfl) (fun _ _ _ h => h) (Or.inl ⟨by rfl, ?_⟩) ?_
            rotate_left
            · intro w; go_simp; with_reducible rfl
            conv =>
              arg 7
              simp only [List.setIfInBounds_toArray, List.set_cons_succ, List.set_cons_zero]
            refine wpAny_done (by kernel_rfl) ?_ _
            go_wp2
            go_ret
            exact ⟨rfl, bbi⟩
      · have he1 : ((rint l).2.2 == 0) = false := by simpa using hi
        have he2 : ((rint l).2.2 != 0) = true := by simpa using hi
        generalize (rint l).1 = x8 at *
        generalize (rint l).2.2 = x9 at *
        clear hi hl8 p3
        have bd := hb8.drew
        clear hb8
        go_wp2_with fail
        refine wp_region_any (by kernel_rfl) ?_
        change wpAny _ _ _ _ _ _ _ (World.drew _)
        refine wpAny_ready (rs := [0]) (by kernel_rfl) (by simp) ?_
        refine AllReady.cons rfl (fun K hK => ?_) (AllReady.nil)
        go_simp
        go_wp2_with (go_at_call 15; refine (puts_any _).mono ?_; rintro e wp ⟨rfl, bp⟩)
        have bbp := bd.trans (bp.mono bd.size)
        clear bd bp
        refine take_put (i := 1) (d := 93) (v := ?_) rfl rfl (by kernel_rfl) (by kernel_rfl) (by kernel_rfl) (fun _ _ _ h => h) (Or.inl ⟨by rfl, ?_⟩) ?_
        rotate_left
        · intro w; go_simp; with_reducible rfl
        conv =>
          arg 7
          simp only [List.setIfInBounds_toArray, List.set_cons_succ, List.set_cons_zero]
        refine wpAny_ready (rs := [2]) (by kernel_rfl) (by simp) ?_
        refine AllReady.cons rfl (fun K hK => ?_) (AllReady.nil)
        go_simp
        go_wp2_with (go_at_call 29; refine (reads_any _).mono ?_; rintro e wq ⟨rfl, br⟩)
        have bbr := bbp.trans (br.mono bbp.size)
        clear bbp br
        refine take_put (i := 3) (d := 95) (v := ?_) rfl rfl (by kernel_rfl) (by kernel_rfl) (by kernel_rfl) (fun _ _ _ h => h) (Or.inl ⟨by rfl, ?_⟩) ?_
        rotate_left
        · intro w; go_simp; with_reducible rfl
        conv =>
          arg 7
          simp only [List.setIfInBounds_toArray, List.set_cons_succ, List.set_cons_zero]
        refine take_put (i := 4) (d := 96) (v := ?_) rfl rfl (by kernel_rfl) (by kernel_rfl) (by kernel_rfl) (fun _ _ _ h => h) (Or.inl ⟨by rfl, ?_⟩) ?_
        rotate_left
        · intro w; go_simp; with_reducible rfl
        conv =>
          arg 7
          simp only [List.setIfInBounds_toArray, List.set_cons_succ, List.set_cons_zero]
        refine take_put (i := 5) (d := 97) (v := ?_) rfl rfl (by kernel_rfl) (by kernel_rfl) (by kernel_rfl) (fun _ _ _ h => h) (Or.inl ⟨by rfl, ?_⟩) ?_
        rotate_left
        · intro w; go_simp; with_reducible rfl
        conv =>
          arg 7
          simp only [List.setIfInBounds_toArray, List.set_cons_succ, List.set_cons_zero]
        refine take_put (i := 6) (d := 98) (v := ?_) rfl rfl (by kernel_rfl) (by kernel_rfl) (by kernel_rfl) (fun _ _ _ h => h) (Or.inl ⟨by rfl, ?_⟩) ?_
        rotate_left
        · intro w; go_simp; with_reducible rfl
        conv =>
          arg 7
          simp only [List.setIfInBounds_toArray, List.set_cons_succ, List.set_cons_zero]
        refine take_put (i := 7) (d := 99) (v := ?_) rfl rfl (by kernel_rfl) (by kernel_rfl) (by kernel_rfl) (fun _ _ _ h => h) (Or.inl ⟨by rfl, ?_⟩) ?_
        rotate_left
        · intro w; go_simp; with_reducible rfl
        conv =>
          arg 7
          simp only [List.setIfInBounds_toArray, List.set_cons_succ, List.set_cons_zero]
        refine take_put (i := 8) (d := 100) (v := undef) rfl rfl (by kernel_rfl) (by kernel_rfl) (by kernel_rfl) (fun _ _ _ h => h) (Or.inr ⟨by rfl, rfl⟩) ?_
        conv =>
          arg 7
          simp only [List.setIfInBounds_toArray, List.set_cons_succ, List.set_cons_zero]
        refine take_put (i := 9) (d := 101) (v := undef) rfl rfl (by kernel_rfl) (by kernel_rfl) (by kernel_rfl) (fun _ _ _ h => h) (Or.inr ⟨by rfl, rfl⟩) ?_
        conv =>
          arg 7
          simp only [List.setIfInBounds_toArray, List.set_cons_succ, List.set_cons_zero]
        refine take_put (i := 10) (d := 102) (v := undef) rfl rfl (by kernel_rfl) (by kernel_rfl) (by kernel_rfl) (fun _ _ _ h => h) (Or.inr ⟨by rfl, rfl⟩) ?_
        conv =>
          arg 7
          simp only [List.setIfInBounds_toArray, List.set_cons_succ, List.set_cons_zero]
        refine take_put (i := 11) (d := 103) (v := undef) rfl rfl (by kernel_rfl) (by kernel_rfl) (by kernel_rfl) (fun _ _ _ h => h) (Or.inr ⟨by rfl, rfl⟩) ?_
        conv =>
          arg 7
          simp only [List.setIfInBounds_toArray, List.set_cons_succ, List.set_cons_zero]
        refine take_put (i := 12) (d := 104) (v := undef) rfl rfl (by kernel_rfl) (by kernel_rfl) (by kernel_rfl) (fun _ _ _ h => h) (Or.inr ⟨by rfl, rfl⟩) ?_
        conv =>
          arg 7
          simp only [List.setIfInBounds_toArray, List.set_cons_succ, List.set_cons_zero]
        refine take_put (i := 13) (d := 105) (v := undef) rfl rfl (by kernel_rfl) (by kernel_rfl) (by kernel_rfl) (fun _ _ _ h => h) (Or.inr ⟨by rfl, rfl⟩) ?_
        conv =>
          arg 7
          simp only [List.setIfInBounds_toArray, List.set_cons_succ, List.set_cons_zero]
        refine take_put (i := 14) (d := 106) (v := undef) rfl rfl (by kernel_rfl) (by kernel_rfl) (by kernel_rfl) (fun _ _ _ h => h) (Or.inr ⟨by rfl, rfl⟩) ?_
        conv =>
          arg 7
          simp only [List.setIfInBounds_toArray, List.set_cons_succ, List.set_cons_zero]
        refine take_put (i := 15) (d := 107) (v := undef) rfl rfl (by kernel_rfl) (by kernel_rfl) (by kernel_rfl) (fun _ _ _ h => h) (Or.inr ⟨by rfl, rfl⟩) ?_
        conv =>
          arg 7
          simp only [List.setIfInBounds_toArray, List.set_cons_succ, List.set_cons_zero]
        refine take_put (i := 16) (d := 108) (v := undef) rfl rfl (by kernel_rfl) (by kernel_rfl) (by kernel_rfl) (fun _ _ _ h => h) (Or.inr ⟨by rfl, rfl⟩) ?_
        conv =>
          arg 7
          simp only [List.setIfInBounds_toArray, List.set_cons_succ, List.set_cons_zero]
        refine take_put (i := 17) (d := 109) (v := undef) rfl rfl (by kernel_rfl) (by kernel_rfl) (by kernel_rfl) (fun _ _ _ h => h) (Or.inr ⟨by rfl, rfl⟩) ?_
        conv =>
          arg 7
          simp only [List.setIfInBounds_toArray, List.set_cons_succ, List.set_cons_zero]
        refine take_put (i := 18) (d := 110) (v := undef) rfl rfl (by kernel_rfl) (by kernel_rfl) (by kernel_rfl) (fun _ _ _ h => h) (Or.inr ⟨by rfl, rfl⟩) ?_
        conv =>
          arg 7
          simp only [List.setIfInBounds_toArray, List.set_cons_succ, List.set_cons_zero]
        refine take_put (i := 19) (d := 111) (v := undef) rfl rfl (by kernel_rfl) (by kernel_rfl) (by kernel_rfl) (fun _ _ _ h => h) (Or.inr ⟨by rfl, rfl⟩) ?_
        conv =>
          arg 7
          simp only [List.setIfInBounds_toArray, List.set_cons_succ, List.set_cons_zero]
        refine take_put (i := 20) (d := 112) (v := ?_) rfl rfl (by kernel_rfl) (by kernel_rfl) (by kernel_rfl) (fun _ _ _ h => h) (Or.inl ⟨by rfl, ?_⟩) ?_
        rotate_left
        · intro w; go_simp; with_reducible rfl
        conv =>
          arg 7
          simp only [List.setIfInBounds_toArray, List.set_cons_succ, List.set_cons_zero]
        refine take_put (i := 21) (d := 113) (v := ?_) rfl rfl (by kernel_rfl) (by kernel_rfl) (by kernel_rfl) (fun _ _ _ h => h) (Or.inl ⟨by rfl, ?_⟩) ?_
        rotate_left
        · intro w; go_simp; with_reducible rfl
        conv =>
          arg 7
          simp only [List.setIfInBounds_toArray, List.set_cons_succ, List.set_cons_zero]
        refine take_put (i := 22) (d := 2) (v := ?_) rfl rfl (by kernel_rfl) (by kernel_rfl) (by kernel_rfl) (fun _ _ _ h => h) (Or.inl ⟨by rfl, ?_⟩) ?_
        rotate_left
        · intro w; go_simp; with_reducible rfl
        conv =>
          arg 7
          simp only [List.setIfInBounds_toArray, List.set_cons_succ, List.set_cons_zero]
        refine wpAny_done (by kernel_rfl) ?_ _
        go_wp2
        go_ret
        exact ⟨rfl, bbr⟩
end Go.Proofs.Ytllbebbmnjojgaa

/-
  The law HeapLinks, walked.
-/
import Derived.Test.YtkbggbgnnllmjaaGreatDoorMg30
namespace Go.Proofs.YtkbggbgnnllmjaaGreatDoor
open Go.RowKit

set_option maxRecDepth 100000 in
set_option maxHeartbeats 4000000 in
theorem links_walk (s : HSl) (H : Hp) (a i b k tgt : Int) (w : World) (hT : Tab w) (h : RdH w s H) :
    Calls Tryz.prog 9 #[hval H s, .int .i64 a, .int .i64 i, .int .i64 b, .int .i64 k, .int .i64 tgt] w (Tells w (.bool true)) := by
  have HT := Lib.hid hT
  have HR := Lib.hid h
  have g1 := (Below.refl w.heap.size w).alloc (Nat.le_refl _) (.cells (hcs H s).toArray 26)
  have S1 := refBig_any s H _ (h.below g1)
  have H4 := Lib.hid h.tp
  clear hT h g1
  go_enter Tryz.func9, Tryz.ntmps9
  obtain ⟨A, n, c, F, m, d⟩ := s
  simp only [hval, hcs] at *
  obtain ⟨p, W, hW, hp, K, bw⟩ := box_heap w (.int .i64 H.od) (.slice A n c) (.int .i64 H.nx) (.int .i64 (tget H 0)) (.int .i64 (tget H 1)) (.int .i64 (tget H 2)) (.int .i64 (tget H 3)) (.slice F m d)
  rw [hW] at S1
  go_upto_region 1 with (fail)
  rw [← hp]
  clear hW hp
  obtain ⟨c0, c1, c2, c3, c4, c5, c6, c7⟩ := K.eight
  obtain ⟨KH, BH⟩ := And.intro (Lib.hid K) (Lib.hid bw)
  clear K bw
  go_upto_region 3 with (go_at_call 11; refine S1.mono ?_; rintro e w1 ⟨q, rfl, hq, g1⟩; cases q)
  rotate_left
  · go_ret
    exact ⟨rfl, BH.out.trans (g1.below.mono BH.out.size)⟩
  clear S1
  have hS := Lib.hid (hq (by first | rfl | trivial))
  have KB := Lib.hid (KH.out.below g1.below)
  have B := Lib.hid (BH.out.trans (g1.below.mono BH.out.size))
  clear g1 BH c0 c1 c2 c3 c4 c5 c6 c7 hq KH
  obtain ⟨c0, c1, c2, c3, c4, c5, c6, c7⟩ := KB.out.eight
  have S := do_heap ⟨A, n, c, F, m, d⟩ H ⟨7, b, k, 0, 0, 0, 0⟩ _ (HR.out.below B.out) hS.out (HT.out.below B.out)
  obtain ⟨r, hr⟩ : ∃ r, r = doH H ⟨7, b, k, 0, 0, 0, 0⟩ := ⟨_, rfl⟩
  rw [← hr] at S
  simp only [hval, hcs, opv, opcs] at S
  have R1 := Lib.hid hr
  obtain ⟨x1, e1, v1⟩ := r
  clear hr
  go_upto_region 4 with (go_at_call 13; refine S.mono ?_; rintro e w2 ⟨⟨A2, n2, c2', F2, m2, d2⟩, os2, rfl, o2, b2⟩; simp only [hval, hcs])
  obtain ⟨p2, W2, hW, hp, Kx, Kr, bw⟩ := box_two w2 (.int .i64 x1.od) (.slice A2 n2 c2') (.int .i64 x1.nx) (.int .i64 (tget x1 0)) (.int .i64 (tget x1 1)) (.int .i64 (tget x1 2)) (.int .i64 (tget x1 3)) (.slice F2 m2 d2) (.int .i64 e1) (.int .i64 v1)
  rw [hW, ← hp]
  have bb := b2.trans (bw.mono b2.size)
  have B := Lib.hid (B.out.trans (bb.mono B.out.size))
  have KB := Lib.hid (KB.out.below bb)
  have KR1 := Lib.hid Kr
  clear S hW hp Kx Kr bw b2 bb o2 c0 c1 c2 c3 c4 c5 c6 c7
  obtain ⟨c0, c1, c2, c3, c4, c5, c6, c7⟩ := KB.out.eight
  have S := do_heap ⟨A, n, c, F, m, d⟩ H ⟨8, 0, k, 0, 0, 0, 0⟩ _ (HR.out.below B.out) hS.out (HT.out.below B.out)
  obtain ⟨r, hr⟩ : ∃ r, r = doH H ⟨8, 0, k, 0, 0, 0, 0⟩ := ⟨_, rfl⟩
  rw [← hr] at S
  simp only [hval, hcs, opv, opcs] at S
  have R2 := Lib.hid hr
  obtain ⟨x2, e2, v2⟩ := r
  clear hr
  go_upto_region 5 with (go_at_call 13; refine S.mono ?_; rintro e w3 ⟨⟨A3, n3, c3', F3, m3, d3⟩, os3, rfl, o3, b3⟩; simp only [hval, hcs])
  obtain ⟨p3, W3, hW, hp, Kx, Kr, bw⟩ := box_two w3 (.int .i64 x2.od) (.slice A3 n3 c3') (.int .i64 x2.nx) (.int .i64 (tget x2 0)) (.int .i64 (tget x2 1)) (.int .i64 (tget x2 2)) (.int .i64 (tget x2 3)) (.slice F3 m3 d3) (.int .i64 e2) (.int .i64 v2)
  rw [hW, ← hp]
  have bb := b3.trans (bw.mono b3.size)
  have B := Lib.hid (B.out.trans (bb.mono B.out.size))
  have KB := Lib.hid (KB.out.below bb)
  have KR1 := Lib.hid (KR1.out.below bb)
  have KR2 := Lib.hid Kr
  clear S hW hp Kx Kr bw b3 bb o3 c0 c1 c2 c3 c4 c5 c6 c7
  obtain ⟨c0, c1, c2, c3, c4, c5, c6, c7⟩ := KB.out.eight
  have S := do_heap ⟨A, n, c, F, m, d⟩ H ⟨4, a, i, 0, 0, 0, tgt⟩ _ (HR.out.below B.out) hS.out (HT.out.below B.out)
  obtain ⟨r, hr⟩ : ∃ r, r = doH H ⟨4, a, i, 0, 0, 0, tgt⟩ := ⟨_, rfl⟩
  have hs3 := Lib.hid (show SmallH r.1 by rw [hr]; exact doH_small _)
  rw [← hr] at S
  simp only [hval, hcs, opv, opcs] at S
  have R3 := Lib.hid hr
  obtain ⟨x3, e3, v3⟩ := r
  clear hr
  go_upto_region 6 with (go_at_call 13; refine S.mono ?_; rintro e w4 ⟨⟨A4, n4, c4', F4, m4, d4⟩, os4, rfl, o4, b4⟩; simp only [hval, hcs])
  obtain ⟨p4, W4, hW, hp, Kx, Kr, bw⟩ := box_two w4 (.int .i64 x3.od) (.slice A4 n4 c4') (.int .i64 x3.nx) (.int .i64 (tget x3 0)) (.int .i64 (tget x3 1)) (.int .i64 (tget x3 2)) (.int .i64 (tget x3 3)) (.slice F4 m4 d4) (.int .i64 e3) (.int .i64 v3)
  rw [hW, ← hp]
  have bb := b4.trans (bw.mono b4.size)
  have B := Lib.hid (B.out.trans (bb.mono B.out.size))
  have KB := Lib.hid (KB.out.below bb)
  have KR1 := Lib.hid (KR1.out.below bb)
  have KR2 := Lib.hid (KR2.out.below bb)
  have KX3 := Lib.hid Kx
  have KR3 := Lib.hid Kr
  have O3 := Lib.hid (o4.rd.below bw)
  clear S hW hp Kx Kr bw b4 bb o4 c0 c1 c2 c3 c4 c5 c6 c7
  obtain ⟨c0, c1, c2, c3, c4, c5, c6, c7⟩ := KB.out.eight
  have S := do_heap ⟨A, n, c, F, m, d⟩ H ⟨5, 0, i, 0, 0, 0, tgt⟩ _ (HR.out.below B.out) hS.out (HT.out.below B.out)
  obtain ⟨r, hr⟩ : ∃ r, r = doH H ⟨5, 0, i, 0, 0, 0, tgt⟩ := ⟨_, rfl⟩
  have hs4 := Lib.hid (show SmallH r.1 by rw [hr]; exact doH_small _)
  rw [← hr] at S
  simp only [hval, hcs, opv, opcs] at S
  have R4 := Lib.hid hr
  obtain ⟨x4, e4, v4⟩ := r
  clear hr
  go_upto_region 7 with (go_at_call 13; refine S.mono ?_; rintro e w5 ⟨⟨A5, n5, c5', F5, m5, d5⟩, os5, rfl, o5, b5⟩; simp only [hval, hcs])
  obtain ⟨p5, W5, hW, hp, Kx, Kr, bw⟩ := box_two w5 (.int .i64 x4.od) (.slice A5 n5 c5') (.int .i64 x4.nx) (.int .i64 (tget x4 0)) (.int .i64 (tget x4 1)) (.int .i64 (tget x4 2)) (.int .i64 (tget x4 3)) (.slice F5 m5 d5) (.int .i64 e4) (.int .i64 v4)
  rw [hW, ← hp]
  have bb := b5.trans (bw.mono b5.size)
  have B := Lib.hid (B.out.trans (bb.mono B.out.size))
  have KR1 := Lib.hid (KR1.out.below bb)
  have KR2 := Lib.hid (KR2.out.below bb)
  have KX3 := Lib.hid (KX3.out.below bb)
  have KR3 := Lib.hid (KR3.out.below bb)
  have O3 := Lib.hid (O3.out.below bb)
  have KX4 := Lib.hid Kx
  have KR4 := Lib.hid Kr
  have O4 := Lib.hid (o5.rd.below bw)
  clear S hW hp Kx Kr bw b5 bb o5 c0 c1 c2 c3 c4 c5 c6 c7
  have key1 := Lib.hid (show e3 = 0 → RightH x3 ∧ readH x3 true a i = (0, tgt) ∧ ((a = b ∧ i = k) ∨ readH x3 true b k = (e1, v1)) from fun he => by
    have h3 := R3.out
    rcases doH_is (H := H) ⟨4, a, i, 0, 0, 0, tgt⟩ with ⟨kr, q1, q2⟩ | ⟨_, q1⟩
    · rw [q1] at h3
      have hx := congrArg Prod.fst h3
      have hc : (doneH H ⟨4, a, i, 0, 0, 0, tgt⟩).2.1 = 0 := by have := congrArg (fun r => r.2.1) h3; simp only at this; rw [← this, he]
      obtain ⟨l1, l2⟩ := links_law rfl hc
      simp only at hx
      rw [← hx] at l1 l2 q2
      refine ⟨q2, l1, ?_⟩
      have h1 := R1.out
      rw [doH_right kr, doneH_follow rfl] at h1
      rcases l2 b k with l | l
      · exact .inl l
      · exact .inr (l.trans (congrArg Prod.snd h1).symm)
    · rw [q1] at h3
      have := congrArg (fun r => r.2.1) h3
      simp only at this
      omega)
  have key2 := Lib.hid (show e4 = 0 → RightH x4 ∧ askTop x4 i = (0, tgt) ∧ (i = k ∨ askTop x4 k = (e2, v2)) from fun he => by
    have h3 := R4.out
    rcases doH_is (H := H) ⟨5, 0, i, 0, 0, 0, tgt⟩ with ⟨kr, q1, q2⟩ | ⟨_, q1⟩
    · rw [q1] at h3
      have hx := congrArg Prod.fst h3
      have hc : (doneH H ⟨5, 0, i, 0, 0, 0, tgt⟩).2.1 = 0 := by have := congrArg (fun r => r.2.1) h3; simp only at this; rw [← this, he]
      obtain ⟨l1, l2⟩ := roots_law H4.out rfl hc
      simp only at hx
      rw [← hx] at l1 l2 q2
      refine ⟨q2, l1, ?_⟩
      have h1 := R2.out
      rw [doH_right kr, doneH_top rfl] at h1
      rcases l2 k with l | l
      · exact .inl l
      · exact .inr (l.trans (congrArg Prod.snd h1).symm)
    · rw [q1] at h3
      have := congrArg (fun r => r.2.1) h3
      simp only at this
      omega)
  clear R1 R2 R3 R4 hS HR KB
  obtain ⟨y3, _⟩ := KR3.out.two
  by_cases he3 : e3 = 0
  case neg =>
    have hd3 : (e3 == 0) = false := by simp [he3]
    clear he3
    go_upto_region 12 with (fail)
    clear y3 hd3
    obtain ⟨y0, _⟩ := KR4.out.two
    by_cases he4 : e4 = 0
    case neg =>
      have hd4 : (e4 == 0) = false := by simp [he4]
      have hd4' : (e4 != 0) = true := by simp [he4]
      clear he4
      have F1 := fresh_any _ (HT.out.below B.out)
      have D1 := Lib.hid fun (WW : World) (bl : Below W5.heap.size W5 WW) => does_any WW (HT.out.below (B.out.trans (bl.mono B.out.size)))
      go_wp2_with (first
        | (go_at_call 19; refine F1.mono ?_; rintro e w6 ⟨rfl, b6⟩)
        | (go_at_call 17; refine (D1.out _ b6).mono ?_; rintro e w7 ⟨rfl, b7⟩))
      go_ret
      exact ⟨by first | rfl | (simp; done), B.out.trans ((b6.trans (b7.mono b6.size)).mono B.out.size)⟩
    subst he4
    obtain ⟨rx4, l1, l2⟩ := key2.out rfl
    have Hl1 := Lib.hid l1
    have Hl2 := Lib.hid l2
    have Hrx4 := Lib.hid rx4
    clear l1 l2 rx4
    go_upto_region 13 with (fail)
    clear y0
    obtain ⟨c0, c1, c2, c3, c4, c5, c6, c7⟩ := KX4.out.eight
    have S := do_heap ⟨A5, n5, c5', F5, m5, d5⟩ x4 ⟨8, 0, i, 0, 0, 0, 0⟩ _ O4.out hs4.out (HT.out.below B.out)
    obtain ⟨r, hr⟩ : ∃ r, r = doH x4 ⟨8, 0, i, 0, 0, 0, 0⟩ := ⟨_, rfl⟩
    rw [← hr] at S
    simp only [hval, hcs, opv, opcs] at S
    have R8 := Lib.hid hr
    obtain ⟨x8, e8, v8⟩ := r
    clear hr
    go_upto_region 14 with (go_at_call 13; refine S.mono ?_; rintro e w8 ⟨⟨A8, n8, c8', F8, m8, d8⟩, os8, rfl, o8, b8⟩; simp only [hval, hcs])
    obtain ⟨p8, W8, hW, hp, Kx, Kr, bw⟩ := box_two w8 (.int .i64 x8.od) (.slice A8 n8 c8') (.int .i64 x8.nx) (.int .i64 (tget x8 0)) (.int .i64 (tget x8 1)) (.int .i64 (tget x8 2)) (.int .i64 (tget x8 3)) (.slice F8 m8 d8) (.int .i64 e8) (.int .i64 v8)
    rw [hW, ← hp]
    have bb := b8.trans (bw.mono b8.size)
    have B := Lib.hid (B.out.trans (bb.mono B.out.size))
    have KR2 := Lib.hid (KR2.out.below bb)
    have KX4 := Lib.hid (KX4.out.below bb)
    have O4 := Lib.hid (O4.out.below bb)
    have KR8 := Lib.hid Kr
    clear S hW hp Kx Kr bw b8 bb o8 c0 c1 c2 c3 c4 c5 c6 c7
    obtain ⟨c0, c1, c2, c3, c4, c5, c6, c7⟩ := KX4.out.eight
    have S := do_heap ⟨A5, n5, c5', F5, m5, d5⟩ x4 ⟨8, 0, k, 0, 0, 0, 0⟩ _ O4.out hs4.out (HT.out.below B.out)
    obtain ⟨r, hr⟩ : ∃ r, r = doH x4 ⟨8, 0, k, 0, 0, 0, 0⟩ := ⟨_, rfl⟩
    rw [← hr] at S
    simp only [hval, hcs, opv, opcs] at S
    have R9 := Lib.hid hr
    obtain ⟨x9, e9, v9⟩ := r
    clear hr
    go_upto_region 15 with (go_at_call 13; refine S.mono ?_; rintro e w9 ⟨⟨A9, n9, c9', F9, m9, d9⟩, os9, rfl, o9, b9⟩; simp only [hval, hcs])
    obtain ⟨p9, W9, hW, hp, Kx, Kr, bw⟩ := box_two w9 (.int .i64 x9.od) (.slice A9 n9 c9') (.int .i64 x9.nx) (.int .i64 (tget x9 0)) (.int .i64 (tget x9 1)) (.int .i64 (tget x9 2)) (.int .i64 (tget x9 3)) (.slice F9 m9 d9) (.int .i64 e9) (.int .i64 v9)
    rw [hW, ← hp]
    have bb := b9.trans (bw.mono b9.size)
    have B := Lib.hid (B.out.trans (bb.mono B.out.size))
    have KR2 := Lib.hid (KR2.out.below bb)
    have KR8 := Lib.hid (KR8.out.below bb)
    have KR9 := Lib.hid Kr
    clear S hW hp Kx Kr bw b9 bb o9 c0 c1 c2 c3 c4 c5 c6 c7
    have e8v : e8 = 0 ∧ v8 = tgt := by
      have h1 := R8.out
      rw [doH_right Hrx4.out, doneH_top rfl, Hl1.out] at h1
      exact ⟨congrArg (fun r => r.2.1) h1, congrArg (fun r => r.2.2) h1⟩
    have e9v : i = k ∨ (e9, v9) = (e2, v2) := by
      rcases Hl2.out with l | l
      · exact .inl l
      · refine .inr ?_
        have h1 := R9.out
        rw [doH_right Hrx4.out, doneH_top rfl, l] at h1
        exact congrArg Prod.snd h1
    obtain ⟨rfl, rfl⟩ := e8v
    clear R8 R9
    have F1 := fresh_any _ (HT.out.below B.out)
    have D1 := Lib.hid fun (WW : World) (bl : Below W9.heap.size W9 WW) => does_any WW (HT.out.below (B.out.trans (bl.mono B.out.size)))
    obtain ⟨s0, s1⟩ := KR8.out.two
    obtain ⟨t0, t1⟩ := KR9.out.two
    obtain ⟨u0, u1⟩ := KR2.out.two
    by_cases hik : i = k
    · subst hik
      clear e9v
      go_wp2_with (first
        | (go_at_call 19; refine F1.mono ?_; rintro e w6 ⟨rfl, b6⟩)
        | (go_at_call 17; refine (D1.out _ b6).mono ?_; rintro e w7 ⟨rfl, b7⟩))
      go_ret
      exact ⟨by first | rfl | (simp; done), B.out.trans ((b6.trans (b7.mono b6.size)).mono B.out.size)⟩
    · have heq := e9v.resolve_left hik
      injection heq with q1 q2
      subst q1 q2
      have run := run_neq_res e9 v9 e9 v9
      rw [show (!sameB (e9, v9) (e9, v9)) = false by simp [sameB]] at run
      have hik0 : (i != k) = true := by simp [hik]
      clear e9v hik
      go_wp2_with (first
        | (go_at_call 19; refine F1.mono ?_; rintro e w6 ⟨rfl, b6⟩)
        | (go_at_call 17; refine (D1.out _ b6).mono ?_; rintro e w7 ⟨rfl, b7⟩))
      go_ret
      exact ⟨by first | rfl | (simp; done), B.out.trans ((b6.trans (b7.mono b6.size)).mono B.out.size)⟩
  subst he3
  obtain ⟨rx3, l1, l2⟩ := key1.out rfl
  have Hl3 := Lib.hid l1
  have Hl4 := Lib.hid l2
  have Hrx3 := Lib.hid rx3
  clear l1 l2 rx3
  go_upto_region 8 with (fail)
  clear y3
  obtain ⟨c0, c1, c2, c3, c4, c5, c6, c7⟩ := KX3.out.eight
  have S := do_heap ⟨A4, n4, c4', F4, m4, d4⟩ x3 ⟨7, a, i, 0, 0, 0, 0⟩ _ O3.out hs3.out (HT.out.below B.out)
  obtain ⟨r, hr⟩ : ∃ r, r = doH x3 ⟨7, a, i, 0, 0, 0, 0⟩ := ⟨_, rfl⟩
  rw [← hr] at S
  simp only [hval, hcs, opv, opcs] at S
  have R6 := Lib.hid hr
  obtain ⟨x6, e6, v6⟩ := r
  clear hr
  go_upto_region 9 with (go_at_call 13; refine S.mono ?_; rintro e w6 ⟨⟨A6, n6, c6', F6, m6, d6⟩, os6, rfl, o6, b6⟩; simp only [hval, hcs])
  obtain ⟨p6, W6, hW, hp, Kx, Kr, bw⟩ := box_two w6 (.int .i64 x6.od) (.slice A6 n6 c6') (.int .i64 x6.nx) (.int .i64 (tget x6 0)) (.int .i64 (tget x6 1)) (.int .i64 (tget x6 2)) (.int .i64 (tget x6 3)) (.slice F6 m6 d6) (.int .i64 e6) (.int .i64 v6)
  rw [hW, ← hp]
  have bb := b6.trans (bw.mono b6.size)
  have B := Lib.hid (B.out.trans (bb.mono B.out.size))
  have KR1 := Lib.hid (KR1.out.below bb)
  have KR2 := Lib.hid (KR2.out.below bb)
  have KX3 := Lib.hid (KX3.out.below bb)
  have O3 := Lib.hid (O3.out.below bb)
  have KX4 := Lib.hid (KX4.out.below bb)
  have KR4 := Lib.hid (KR4.out.below bb)
  have O4 := Lib.hid (O4.out.below bb)
  have KR6 := Lib.hid Kr
  clear S hW hp Kx Kr bw b6 bb o6 c0 c1 c2 c3 c4 c5 c6 c7
  obtain ⟨c0, c1, c2, c3, c4, c5, c6, c7⟩ := KX3.out.eight
  have S := do_heap ⟨A4, n4, c4', F4, m4, d4⟩ x3 ⟨7, b, k, 0, 0, 0, 0⟩ _ O3.out hs3.out (HT.out.below B.out)
  obtain ⟨r, hr⟩ : ∃ r, r = doH x3 ⟨7, b, k, 0, 0, 0, 0⟩ := ⟨_, rfl⟩
  rw [← hr] at S
  simp only [hval, hcs, opv, opcs] at S
  have R7 := Lib.hid hr
  obtain ⟨x7, e7, v7⟩ := r
  clear hr
  go_upto_region 10 with (go_at_call 13; refine S.mono ?_; rintro e w7 ⟨⟨A7, n7, c7', F7, m7, d7⟩, os7, rfl, o7, b7⟩; simp only [hval, hcs])
  obtain ⟨p7, W7, hW, hp, Kx, Kr, bw⟩ := box_two w7 (.int .i64 x7.od) (.slice A7 n7 c7') (.int .i64 x7.nx) (.int .i64 (tget x7 0)) (.int .i64 (tget x7 1)) (.int .i64 (tget x7 2)) (.int .i64 (tget x7 3)) (.slice F7 m7 d7) (.int .i64 e7) (.int .i64 v7)
  rw [hW, ← hp]
  have bb := b7.trans (bw.mono b7.size)
  have B := Lib.hid (B.out.trans (bb.mono B.out.size))
  have KR1 := Lib.hid (KR1.out.below bb)
  have KR2 := Lib.hid (KR2.out.below bb)
  have KX4 := Lib.hid (KX4.out.below bb)
  have KR4 := Lib.hid (KR4.out.below bb)
  have O4 := Lib.hid (O4.out.below bb)
  have KR6 := Lib.hid (KR6.out.below bb)
  have KR7 := Lib.hid Kr
  clear S hW hp Kx Kr bw b7 bb o7 c0 c1 c2 c3 c4 c5 c6 c7
  have e6v : e6 = 0 ∧ v6 = tgt := by
    have h1 := R6.out
    rw [doH_right Hrx3.out, doneH_follow rfl] at h1
    simp only at h1
    rw [Hl3.out] at h1
    exact ⟨congrArg (fun r => r.2.1) h1, congrArg (fun r => r.2.2) h1⟩
  have e7v : (a = b ∧ i = k) ∨ (e7, v7) = (e1, v1) := by
    rcases Hl4.out with l | l
    · exact .inl l
    · refine .inr ?_
      have h1 := R7.out
      rw [doH_right Hrx3.out, doneH_follow rfl] at h1
      simp only at h1
      rw [l] at h1
      exact congrArg Prod.snd h1
  obtain ⟨rfl, he6⟩ := e6v
  clear R6 R7
  obtain ⟨s0, s1⟩ := KR6.out.two
  obtain ⟨t0, t1⟩ := KR7.out.two
  obtain ⟨u0, u1⟩ := KR1.out.two
  rw [he6] at s1
  go_cut [105] (fun v wc => v = .bool false ∧ W7 = wc)
  case first =>
    by_cases hab : a = b ∧ i = k
    · obtain ⟨rfl, rfl⟩ := hab
      go_wp2_with fail
      go_meet
      exact ⟨rfl, rfl⟩
    · have heq := e7v.resolve_left hab
      injection heq with q1 q2
      subst q1 q2
      have run := run_neq_res e7 v7 e7 v7
      rw [show (!sameB (e7, v7) (e7, v7)) = false by simp [sameB]] at run
      by_cases ha : a = b
      · subst ha
        have hi : (i != k) = true := by simp; exact fun e => hab ⟨rfl, e⟩
        go_wp2_with fail
        go_meet
        exact ⟨rfl, rfl⟩
      · have hi : (a != b) = true := by simp [ha]
        go_wp2_with fail
        go_meet
        exact ⟨rfl, rfl⟩
  case rest =>
    obtain ⟨rfl, rfl⟩ := hcut
    clear s0 s1 t0 t1 u0 u1
    go_upto_region 12 with (fail)
    obtain ⟨y0, _⟩ := KR4.out.two
    by_cases he4 : e4 = 0
    case neg =>
      have hd4 : (e4 == 0) = false := by simp [he4]
      have hd4' : (e4 != 0) = true := by simp [he4]
      clear he4
      have F1 := fresh_any _ (HT.out.below B.out)
      have D1 := Lib.hid fun (WW : World) (bl : Below W7.heap.size W7 WW) => does_any WW (HT.out.below (B.out.trans (bl.mono B.out.size)))
      go_wp2_with (first
        | (go_at_call 19; refine F1.mono ?_; rintro e w6 ⟨rfl, b6⟩)
        | (go_at_call 17; refine (D1.out _ b6).mono ?_; rintro e w7 ⟨rfl, b7⟩))
      go_ret
      exact ⟨by first | rfl | (simp; done), B.out.trans ((b6.trans (b7.mono b6.size)).mono B.out.size)⟩
    subst he4
    obtain ⟨rx4, l1, l2⟩ := key2.out rfl
    have Hl1 := Lib.hid l1
    have Hl2 := Lib.hid l2
    have Hrx4 := Lib.hid rx4
    clear l1 l2 rx4
    go_upto_region 13 with (fail)
    clear y0
    obtain ⟨c0, c1, c2, c3, c4, c5, c6, c7⟩ := KX4.out.eight
    have S := do_heap ⟨A5, n5, c5', F5, m5, d5⟩ x4 ⟨8, 0, i, 0, 0, 0, 0⟩ _ O4.out hs4.out (HT.out.below B.out)
    obtain ⟨r, hr⟩ : ∃ r, r = doH x4 ⟨8, 0, i, 0, 0, 0, 0⟩ := ⟨_, rfl⟩
    rw [← hr] at S
    simp only [hval, hcs, opv, opcs] at S
    have R8 := Lib.hid hr
    obtain ⟨x8, e8, v8⟩ := r
    clear hr
    go_upto_region 14 with (go_at_call 13; refine S.mono ?_; rintro e w8 ⟨⟨A8, n8, c8', F8, m8, d8⟩, os8, rfl, o8, b8⟩; simp only [hval, hcs])
    obtain ⟨p8, W8, hW, hp, Kx, Kr, bw⟩ := box_two w8 (.int .i64 x8.od) (.slice A8 n8 c8') (.int .i64 x8.nx) (.int .i64 (tget x8 0)) (.int .i64 (tget x8 1)) (.int .i64 (tget x8 2)) (.int .i64 (tget x8 3)) (.slice F8 m8 d8) (.int .i64 e8) (.int .i64 v8)
    rw [hW, ← hp]
    have bb := b8.trans (bw.mono b8.size)
    have B := Lib.hid (B.out.trans (bb.mono B.out.size))
    have KR2 := Lib.hid (KR2.out.below bb)
    have KX4 := Lib.hid (KX4.out.below bb)
    have O4 := Lib.hid (O4.out.below bb)
    have KR8 := Lib.hid Kr
    clear S hW hp Kx Kr bw b8 bb o8 c0 c1 c2 c3 c4 c5 c6 c7
    obtain ⟨c0, c1, c2, c3, c4, c5, c6, c7⟩ := KX4.out.eight
    have S := do_heap ⟨A5, n5, c5', F5, m5, d5⟩ x4 ⟨8, 0, k, 0, 0, 0, 0⟩ _ O4.out hs4.out (HT.out.below B.out)
    obtain ⟨r, hr⟩ : ∃ r, r = doH x4 ⟨8, 0, k, 0, 0, 0, 0⟩ := ⟨_, rfl⟩
    rw [← hr] at S
    simp only [hval, hcs, opv, opcs] at S
    have R9 := Lib.hid hr
    obtain ⟨x9, e9, v9⟩ := r
    clear hr
    go_upto_region 15 with (go_at_call 13; refine S.mono ?_; rintro e w9 ⟨⟨A9, n9, c9', F9, m9, d9⟩, os9, rfl, o9, b9⟩; simp only [hval, hcs])
    obtain ⟨p9, W9, hW, hp, Kx, Kr, bw⟩ := box_two w9 (.int .i64 x9.od) (.slice A9 n9 c9') (.int .i64 x9.nx) (.int .i64 (tget x9 0)) (.int .i64 (tget x9 1)) (.int .i64 (tget x9 2)) (.int .i64 (tget x9 3)) (.slice F9 m9 d9) (.int .i64 e9) (.int .i64 v9)
    rw [hW, ← hp]
    have bb := b9.trans (bw.mono b9.size)
    have B := Lib.hid (B.out.trans (bb.mono B.out.size))
    have KR2 := Lib.hid (KR2.out.below bb)
    have KR8 := Lib.hid (KR8.out.below bb)
    have KR9 := Lib.hid Kr
    clear S hW hp Kx Kr bw b9 bb o9 c0 c1 c2 c3 c4 c5 c6 c7
    have e8v : e8 = 0 ∧ v8 = tgt := by
      have h1 := R8.out
      rw [doH_right Hrx4.out, doneH_top rfl, Hl1.out] at h1
      exact ⟨congrArg (fun r => r.2.1) h1, congrArg (fun r => r.2.2) h1⟩
    have e9v : i = k ∨ (e9, v9) = (e2, v2) := by
      rcases Hl2.out with l | l
      · exact .inl l
      · refine .inr ?_
        have h1 := R9.out
        rw [doH_right Hrx4.out, doneH_top rfl, l] at h1
        exact congrArg Prod.snd h1
    obtain ⟨rfl, rfl⟩ := e8v
    clear R8 R9
    have F1 := fresh_any _ (HT.out.below B.out)
    have D1 := Lib.hid fun (WW : World) (bl : Below W9.heap.size W9 WW) => does_any WW (HT.out.below (B.out.trans (bl.mono B.out.size)))
    obtain ⟨s0, s1⟩ := KR8.out.two
    obtain ⟨t0, t1⟩ := KR9.out.two
    obtain ⟨u0, u1⟩ := KR2.out.two
    by_cases hik : i = k
    · subst hik
      clear e9v
      go_wp2_with (first
        | (go_at_call 19; refine F1.mono ?_; rintro e w6 ⟨rfl, b6⟩)
        | (go_at_call 17; refine (D1.out _ b6).mono ?_; rintro e w7 ⟨rfl, b7⟩))
      go_ret
      exact ⟨by first | rfl | (simp; done), B.out.trans ((b6.trans (b7.mono b6.size)).mono B.out.size)⟩
    · have heq := e9v.resolve_left hik
      injection heq with q1 q2
      subst q1 q2
      have run := run_neq_res e9 v9 e9 v9
      rw [show (!sameB (e9, v9) (e9, v9)) = false by simp [sameB]] at run
      have hik0 : (i != k) = true := by simp [hik]
      clear e9v hik
      go_wp2_with (first
        | (go_at_call 19; refine F1.mono ?_; rintro e w6 ⟨rfl, b6⟩)
        | (go_at_call 17; refine (D1.out _ b6).mono ?_; rintro e w7 ⟨rfl, b7⟩))
      go_ret
      exact ⟨by first | rfl | (simp; done), B.out.trans ((b6.trans (b7.mono b6.size)).mono B.out.size)⟩
end Go.Proofs.YtkbggbgnnllmjaaGreatDoor

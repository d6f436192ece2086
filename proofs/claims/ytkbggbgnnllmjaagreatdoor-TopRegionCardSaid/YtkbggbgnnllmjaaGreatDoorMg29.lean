/-
  Words for the laws of a heap; the law HeapWords, walked.
-/
import Derived.Test.YtkbggbgnnllmjaaGreatDoorMg28
import Derived.Test.YtkbggbgnnllmjaaGreatDoorMg15
import Derived.Test.YtkbggbgnnllmjaaGreatDoorMg22
import Derived.Test.YtkbggbgnnllmjaaGreatDoorMg23
namespace Go.Proofs.YtkbggbgnnllmjaaGreatDoor
open Go.RowKit

theorem right_small {H : Hp} (k : RightH H) : SmallH H := by
  refine ⟨by have := k.len; omega, by have := k.fr.len256; omega, fun x hx => ?_⟩
  have h1 := (k.ok x hx).2.2
  have h2 := needI_in (w := x.ws.length) (l := x.ls.length) (by rw [h1.1]; exact h1.2.1.1)
  omega
theorem small_zeroH : SmallH zeroH := ⟨by simp [zeroH], by simp [zeroH], fun x hx => by cases hx⟩
theorem doH_is {H : Hp} (o : Opn) : (RightH H ∧ doH H o = doneH H o ∧ RightH (doneH H o).1) ∨ (¬ RightH H ∧ doH H o = (zeroH, 1, 0)) := by
  by_cases k : RightH H
  · exact .inl ⟨k, doH_right k, (doneH_right k o).1⟩
  · exact .inr ⟨k, doH_wrong k⟩
theorem doH_small {H : Hp} (o : Opn) : SmallH (doH H o).1 := by
  rcases doH_is (H := H) o with ⟨_, h1, h2⟩ | ⟨_, h1⟩ <;> rw [h1]
  · exact right_small h2
  · exact small_zeroH
theorem run_eql_res (x o y p : Int) (W : World) : (binOp .eql 34 (.agg #[.int .i64 x, .int .i64 o]) (.agg #[.int .i64 y, .int .i64 p])).run Tryz.prog W = .ok (.bool (sameB (x, o) (y, p))) W := by
  have u3 := Tryz.underlying3
  have a3 := Tryz.isAgg3
  have z3 := Tryz.sizeOf3
  have u4 := Tryz.underlying32
  have a4 := Tryz.isAgg32
  have z4 := Tryz.sizeOf32
  have hS : Tryz.prog.underlying 34 = some (.struct (Tryz.prog.fieldsOf 34)) := by kernel_rfl
  have hp : Tryz.prog.stoodInHeld 34 = false := by kernel_rfl
  rw [run_eql_struct, show (10000 : Nat) = 9999 + 1 from rfl, run_equalIn_agg W 9999 34 _ _ hS hp]
  simp only [Program.fieldsOf, Tryz.underlying34]
  unfold sameB
  go_simp
  by_cases h1 : x = y <;> by_cases h2 : o = p <;> simp [h1, h2]
/-- What came of an operation lies in two boxes. -/
theorem box_two (w : World) (a0 a1 a2 a3 a4 a5 a6 a7 b0 b1 : Value) :
    ∃ p W, (w.alloc (.cells #[a0, a1, a2, a3, a4, a5, a6, a7] 26)).alloc (.cells #[b0, b1] 34) = W ∧ p = w.heap.size ∧ Whole W p 26 [a0, a1, a2, a3, a4, a5, a6, a7] ∧ Whole W (p + 1) 34 [b0, b1] ∧ Below w.heap.size w W := by
  have k1 := (Whole.new w #[a0, a1, a2, a3, a4, a5, a6, a7] 26).alloc (.cells #[b0, b1] 34)
  have k2 := Whole.new (w.alloc (.cells #[a0, a1, a2, a3, a4, a5, a6, a7] 26)) #[b0, b1] 34
  rw [show (w.alloc (.cells #[a0, a1, a2, a3, a4, a5, a6, a7] 26)).heap.size = w.heap.size + 1 by simp] at k2
  exact ⟨_, _, rfl, rfl, k1, k2, (((Grew.refl w).alloc _).alloc _).below⟩
theorem Whole.two {w : World} {g : Nat} {t : TypeId} {a0 a1 : Value} (h : Whole w g t [a0, a1]) : w.cell? ⟨g, 0, none⟩ = some a0 ∧ w.cell? ⟨g, 1, none⟩ = some a1 := ⟨h.cell 0, h.cell 1⟩

set_option maxRecDepth 100000 in
set_option maxHeartbeats 4000000 in
theorem words_walk (s : HSl) (H : Hp) (a i b k v : Int) (w : World) (hT : Tab w) (h : RdH w s H) :
    Calls Tryz.prog 5 #[hval H s, .int .i64 a, .int .i64 i, .int .i64 b, .int .i64 k, .int .i64 v] w (Tells w (.bool true)) := by
  have HT := Lib.hid hT
  have HR := Lib.hid h
  have g1 := (Below.refl w.heap.size w).alloc (Nat.le_refl _) (.cells (hcs H s).toArray 26)
  have S1 := refBig_any s H _ (h.below g1)
  clear hT h g1
  go_enter Tryz.func5, Tryz.ntmps5
  obtain ⟨A, n, c, F, m, d⟩ := s
  simp only [hval, hcs] at *
  obtain ⟨p, W, hW, hp, K, bw⟩ := box_heap w (.int .i64 H.od) (.slice A n c) (.int .i64 H.nx) (.int .i64 (tget H 0)) (.int .i64 (tget H 1)) (.int .i64 (tget H 2)) (.int .i64 (tget H 3)) (.slice F m d)
  rw [hW] at S1
  go_upto_region 1 with (fail)
  rw [← hp]
  clear hW hp
  obtain ⟨c0, c1, c2, c3, c4, c5, c6, c7⟩ := K.eight
  obtain ⟨KH, BH⟩ := And.intro (Lib.hid K) (Lib.hid bw)
  clear K bw
  go_upto_region 3 with (go_at_call 11; refine S1.mono ?_; rintro e w1 ⟨q, rfl, hq, g1⟩; cases q)
  rotate_left
  · go_ret
    exact ⟨rfl, BH.out.trans (g1.below.mono BH.out.size)⟩
  clear S1
  have hS := Lib.hid (hq (by first | rfl | trivial))
  have K1 := KH.out.below g1.below
  have B1 := Lib.hid (BH.out.trans (g1.below.mono BH.out.size))
  have K1H := Lib.hid K1
  clear g1 BH c0 c1 c2 c3 c4 c5 c6 c7 hq KH
  -- was
  obtain ⟨c0, c1, c2, c3, c4, c5, c6, c7⟩ := K1.eight
  have S2 := do_heap ⟨A, n, c, F, m, d⟩ H ⟨6, b, k, 0, 0, 0, 0⟩ w1 (HR.out.below B1.out) hS.out (HT.out.below B1.out)
  obtain ⟨r1, hr1⟩ : ∃ r1, r1 = doH H ⟨6, b, k, 0, 0, 0, 0⟩ := ⟨_, rfl⟩
  rw [← hr1] at S2
  simp only [hval, hcs, opv, opcs] at S2
  have HR1 := Lib.hid hr1
  obtain ⟨x1, e1, v1⟩ := r1
  clear K1 hr1
  go_upto_region 4 with (go_at_call 13; refine S2.mono ?_; rintro e w2 ⟨⟨A2, n2, c2', F2, m2, d2⟩, os2, rfl, o2, b2⟩; simp only [hval, hcs])
  obtain ⟨p2, W2, hW2, hp2, Kx2, Kr2, bw2⟩ := box_two w2 (.int .i64 x1.od) (.slice A2 n2 c2') (.int .i64 x1.nx) (.int .i64 (tget x1 0)) (.int .i64 (tget x1 1)) (.int .i64 (tget x1 2)) (.int .i64 (tget x1 3)) (.slice F2 m2 d2) (.int .i64 e1) (.int .i64 v1)
  rw [hW2, ← hp2]
  have bb2 := b2.trans (bw2.mono b2.size)
  have B2 := Lib.hid (B1.out.trans (bb2.mono B1.out.size))
  have K2 := K1H.out.below bb2
  have K2H := Lib.hid K2
  have KR2 := Lib.hid Kr2
  clear S2 hW2 hp2 Kx2 Kr2 bw2 b2 bb2 o2 B1 K1H c0 c1 c2 c3 c4 c5 c6 c7
  -- w
  obtain ⟨c0, c1, c2, c3, c4, c5, c6, c7⟩ := K2.eight
  have S3 := do_heap ⟨A, n, c, F, m, d⟩ H ⟨3, a, i, 0, 0, v, 0⟩ W2 (HR.out.below B2.out) hS.out (HT.out.below B2.out)
  obtain ⟨r2, hr2⟩ : ∃ r2, r2 = doH H ⟨3, a, i, 0, 0, v, 0⟩ := ⟨_, rfl⟩
  have hs2 := Lib.hid (show SmallH r2.1 by rw [hr2]; exact doH_small _)
  rw [← hr2] at S3
  simp only [hval, hcs, opv, opcs] at S3
  have HR2 := Lib.hid hr2
  obtain ⟨x2, e2, v2⟩ := r2
  clear K2 hr2
  go_upto_region 5 with (go_at_call 13; refine S3.mono ?_; rintro e w3 ⟨⟨A3, n3, c3', F3, m3, d3⟩, os3, rfl, o3, b3⟩; simp only [hval, hcs])
  obtain ⟨p3, W3, hW3, hp3, Kx3, Kr3, bw3⟩ := box_two w3 (.int .i64 x2.od) (.slice A3 n3 c3') (.int .i64 x2.nx) (.int .i64 (tget x2 0)) (.int .i64 (tget x2 1)) (.int .i64 (tget x2 2)) (.int .i64 (tget x2 3)) (.slice F3 m3 d3) (.int .i64 e2) (.int .i64 v2)
  rw [hW3, ← hp3]
  have bb3 := b3.trans (bw3.mono b3.size)
  have B3 := Lib.hid (B2.out.trans (bb3.mono B2.out.size))
  have KR2' := Lib.hid (KR2.out.below bb3)
  have KX3 := Lib.hid Kx3
  have KR3 := Lib.hid Kr3
  have O3 := Lib.hid (o3.rd.below bw3)
  clear S3 hW3 hp3 Kr3 bw3 b3 bb3 o3 B2 K2H KR2 c0 c1 c2 c3 c4 c5 c6 c7
  -- now
  obtain ⟨c0, c1, c2, c3, c4, c5, c6, c7⟩ := Kx3.eight
  have S4 := do_heap ⟨A3, n3, c3', F3, m3, d3⟩ x2 ⟨6, b, k, 0, 0, 0, 0⟩ W3 O3.out hs2.out (HT.out.below B3.out)
  obtain ⟨r3, hr3⟩ : ∃ r3, r3 = doH x2 ⟨6, b, k, 0, 0, 0, 0⟩ := ⟨_, rfl⟩
  rw [← hr3] at S4
  simp only [hval, hcs, opv, opcs] at S4
  have HR3 := Lib.hid hr3
  obtain ⟨x3, e3, v3⟩ := r3
  clear Kx3 hr3
  go_upto_region 6 with (go_at_call 13; refine S4.mono ?_; rintro e w4 ⟨⟨A4, n4, c4', F4, m4, d4⟩, os4, rfl, o4, b4⟩; simp only [hval, hcs])
  obtain ⟨p4, W4, hW4, hp4, Kx4, Kr4, bw4⟩ := box_two w4 (.int .i64 x3.od) (.slice A4 n4 c4') (.int .i64 x3.nx) (.int .i64 (tget x3 0)) (.int .i64 (tget x3 1)) (.int .i64 (tget x3 2)) (.int .i64 (tget x3 3)) (.slice F4 m4 d4) (.int .i64 e3) (.int .i64 v3)
  rw [hW4, ← hp4]
  have bb4 := b4.trans (bw4.mono b4.size)
  have B4 := Lib.hid (B3.out.trans (bb4.mono B3.out.size))
  have KR24 := Lib.hid (KR2'.out.below bb4)
  have KX34 := KX3.out.below bb4
  have KR34 := Lib.hid (KR3.out.below bb4)
  have KR4 := Lib.hid Kr4
  have O34 := Lib.hid (O3.out.below bb4)
  clear S4 hW4 hp4 Kr4 Kx4 bw4 b4 bb4 o4 B3 KR2' KX3 KR3 O3 c0 c1 c2 c3 c4 c5 c6 c7
  -- r
  obtain ⟨c0, c1, c2, c3, c4, c5, c6, c7⟩ := KX34.eight
  have S5 := do_heap ⟨A3, n3, c3', F3, m3, d3⟩ x2 ⟨6, a, i, 0, 0, 0, 0⟩ W4 O34.out hs2.out (HT.out.below B4.out)
  obtain ⟨r4, hr4⟩ : ∃ r4, r4 = doH x2 ⟨6, a, i, 0, 0, 0, 0⟩ := ⟨_, rfl⟩
  rw [← hr4] at S5
  simp only [hval, hcs, opv, opcs] at S5
  have HR4 := Lib.hid hr4
  obtain ⟨x4, e4, v4⟩ := r4
  clear KX34 hr4
  go_upto_region 7 with (go_at_call 13; refine S5.mono ?_; rintro e w5 ⟨⟨A5, n5, c5', F5, m5, d5⟩, os5, rfl, o5, b5⟩; simp only [hval, hcs])
  obtain ⟨p5, W5, hW5, hp5, Kx5, Kr5, bw5⟩ := box_two w5 (.int .i64 x4.od) (.slice A5 n5 c5') (.int .i64 x4.nx) (.int .i64 (tget x4 0)) (.int .i64 (tget x4 1)) (.int .i64 (tget x4 2)) (.int .i64 (tget x4 3)) (.slice F5 m5 d5) (.int .i64 e4) (.int .i64 v4)
  rw [hW5, ← hp5]
  have bb5 := b5.trans (bw5.mono b5.size)
  have B5 := Lib.hid (B4.out.trans (bb5.mono B4.out.size))
  have KR25 := Lib.hid (KR24.out.below bb5)
  have KR35 := Lib.hid (KR34.out.below bb5)
  have KR45 := Lib.hid (KR4.out.below bb5)
  have KR5 := Lib.hid Kr5
  clear S5 hW5 hp5 Kr5 Kx5 bw5 b5 bb5 o5 B4 KR24 KR34 KR4 O34 c0 c1 c2 c3 c4 c5 c6 c7
  have F1 := fresh_any W5 (HT.out.below B5.out)
  have D1 := Lib.hid fun (W : World) (bl : Below W5.heap.size W5 W) => does_any W (HT.out.below (B5.out.trans (bl.mono B5.out.size)))
  obtain ⟨y0, _⟩ := KR35.out.two
  by_cases he2 : e2 = 0
  case neg =>
    have hd : (e2 != 0) = true := by simp [he2]
    have He := Lib.hid he2
    clear he2
    go_wp2_with (first
      | (go_at_call 19; refine F1.mono ?_; rintro e w6 ⟨rfl, b6⟩)
      | (go_at_call 17; refine (D1.out _ b6).mono ?_; rintro e w7 ⟨rfl, b7⟩))
    go_ret
    exact ⟨rfl, B5.out.trans ((b6.trans (b7.mono b6.size)).mono B5.out.size)⟩
  subst he2
  have key := (by
    have h2 := HR2.out
    rcases doH_is (H := H) ⟨3, a, i, 0, 0, v, 0⟩ with ⟨kr, q1, q2⟩ | ⟨_, q1⟩
    · rw [q1] at h2
      have hx2 : x2 = (doneH H ⟨3, a, i, 0, 0, v, 0⟩).1 := congrArg Prod.fst h2
      have hc2 : (doneH H ⟨3, a, i, 0, 0, v, 0⟩).2.1 = 0 := (congrArg (fun r => r.2.1) h2).symm
      obtain ⟨l1, l2⟩ := words_law rfl hc2
      rw [← hx2] at l1 l2 q2
      have h4 := HR4.out
      rw [doH_right q2, doneH_read rfl, l1] at h4
      have h3 := HR3.out
      rw [doH_right q2, doneH_read rfl] at h3
      have h1 := HR1.out
      rw [doH_right kr, doneH_read rfl] at h1
      refine ⟨congrArg (fun r => r.2.1) h4, congrArg (fun r => r.2.2) h4, ?_⟩
      rcases l2 b k with l | l
      · exact .inl l
      · refine .inr ?_
        rw [l] at h3
        have p3 := congrArg Prod.snd h3
        have p1 := congrArg Prod.snd h1
        exact p1.trans p3.symm
    · rw [q1] at h2
      have := congrArg (fun r => r.2.1) h2
      simp at this : e4 = 0 ∧ v4 = v ∧ ((a = b ∧ i = k) ∨ (e1, v1) = (e3, v3)))
  obtain ⟨rfl, rfl, hor⟩ := key
  clear HR1 HR2 HR3 HR4 hs2
  by_cases hab : a = b ∧ i = k
  · obtain ⟨rfl, rfl⟩ := hab
    clear hor
    go_wp2_with (first
      | (go_at_call 19; refine F1.mono ?_; rintro e w6 ⟨rfl, b6⟩)
      | (go_at_call 17; refine (D1.out _ b6).mono ?_; rintro e w7 ⟨rfl, b7⟩; have b67 := b6.trans (b7.mono b6.size); obtain ⟨u0, u1⟩ := (KR5.out.below b67).two))
    go_ret
    exact ⟨by first | rfl | (simp; done), B5.out.trans (b67.mono B5.out.size)⟩
  · have heq : (e1, v1) = (e3, v3) := hor.resolve_left hab
    injection heq with q1 q2
    subst q1 q2
    have run := run_eql_res e1 v1 e1 v1
    rw [show sameB (e1, v1) (e1, v1) = true by simp [sameB]] at run
    have Hab := Lib.hid hab
    by_cases ha : a = b
    · subst ha
      have hi : (i == k) = false := by simp only [beq_eq_false_iff_ne]; exact fun e => hab ⟨rfl, e⟩
      clear hab hor
      go_wp2_with (first
        | (go_at_call 19; refine F1.mono ?_; rintro e w6 ⟨rfl, b6⟩)
        | (go_at_call 17; refine (D1.out _ b6).mono ?_; rintro e w7 ⟨rfl, b7⟩; have b67 := b6.trans (b7.mono b6.size); obtain ⟨u0, u1⟩ := (KR5.out.below b67).two; obtain ⟨t0, t1⟩ := (KR25.out.below b67).two; obtain ⟨s0, s1⟩ := (KR45.out.below b67).two))
      go_ret
      exact ⟨by first | rfl | (simp; done), B5.out.trans (b67.mono B5.out.size)⟩
    · have hi : (a == b) = false := by simp [ha]
      clear hab hor ha
      go_wp2_with (first
        | (go_at_call 19; refine F1.mono ?_; rintro e w6 ⟨rfl, b6⟩)
        | (go_at_call 17; refine (D1.out _ b6).mono ?_; rintro e w7 ⟨rfl, b7⟩; have b67 := b6.trans (b7.mono b6.size); obtain ⟨u0, u1⟩ := (KR5.out.below b67).two; obtain ⟨t0, t1⟩ := (KR25.out.below b67).two; obtain ⟨s0, s1⟩ := (KR45.out.below b67).two))
      go_ret
      exact ⟨by first | rfl | (simp; done), B5.out.trans (b67.mono B5.out.size)⟩
end Go.Proofs.YtkbggbgnnllmjaaGreatDoor

/-
  The chapter's examples of taking and giving back.
-/
import Derived.Test.YthiijnanfiddpaaDoorBudTa
import Derived.Test.YthiijnanfiddpaaDoorBudK
namespace Go.Proofs.YthiijnanfiddpaaDoor
open Go.RowKit

theorem TakePost.is {w w' : World} {r t er : Int} {l m : List Blk} {b : Blk} {e : Ending} (h : TakePost w r l t e w') (k : TakeRes r l t b m er) :
    ∃ v, e = .returned (.tuple #[bval b, v, .int .i64 er]) ∧ OwnB 32 w' w.heap.size v m ∧ Below w.heap.size w w' := by
  obtain ⟨b', m', er', v, rfl, h2, h3, h4⟩ := h
  obtain ⟨rfl, rfl, rfl⟩ := h2.eq k
  exact ⟨v, rfl, h3, h4⟩
theorem GivePost.is {w w' : World} {r er : Int} {l m : List Blk} {b : Blk} {e : Ending} (h : GivePost w r l b e w') (k : GiveRes r l b m er) :
    ∃ v, e = .returned (.tuple #[v, .int .i64 er]) ∧ OwnB 32 w' w.heap.size v m ∧ Below w.heap.size w w' := by
  obtain ⟨m', er', v, rfl, h2, h3, h4⟩ := h
  obtain ⟨rfl, rfl⟩ := h2.eq k
  exact ⟨v, rfl, h3, h4⟩
theorem take_ex1 : TakeRes 3 [(0, 3)] 1 (0, 1) [(2, 1), (4, 2)] 0 := by
  refine .inr (.inr ⟨by decide +kernel, by decide +kernel, rfl, (0, 3), by simp, by simp, fun c hc _ => ?_, rfl, by simp, fun c => ?_⟩)
  · simp at hc; subst hc; exact Lq.refl _
  · obtain ⟨x, o⟩ := c
    unfold IsHalf
    simp
    constructor
    · rintro (⟨rfl, rfl⟩ | ⟨rfl, rfl⟩)
      · exact .inr ⟨by omega, by omega, by rw [sz1]⟩
      · exact .inr ⟨by omega, by omega, by rw [sz2]⟩
    · rintro (h | ⟨h1, h2, h3⟩)
      · omega
      · obtain rfl | rfl : o = 1 ∨ o = 2 := by omega
        · rw [sz1] at h3; omega
        · rw [sz2] at h3; omega
theorem give_ex1 : GiveRes 3 [(2, 1), (4, 2)] (0, 1) [(0, 3)] 0 := by
  refine .inr (.inr ⟨by decide +kernel, by decide +kernel, rfl, by decide +kernel, fun x => ?_⟩)
  unfold Cov InB
  simp [sz1, sz2, sz3]
  omega
theorem take_ex2 : TakeRes 3 [] 0 (0, 0) [] 40 := .inr (.inl ⟨by decide +kernel, by decide +kernel, rfl, rfl, rfl⟩)
theorem give_ex2 : GiveRes 3 [(0, 3)] (0, 0) [] 41 := .inr (.inl ⟨by decide +kernel, by decide +kernel, rfl, rfl⟩)

set_option maxRecDepth 100000 in
set_option maxHeartbeats 2000000 in
theorem takes_law (w : World) (hT : Tab w) : Calls Tryd.prog 23 #[] w (Holds w) := by
  have S1 := all_any 3 w
  rw [show allL 3 = [(0, 3)] by decide, show allE 3 = 0 by decide] at S1
  have q := run_eql_blk 0 1 0 1
  rw [show sameB (0, 1) (0, 1) = true by decide] at q
  have hm := noGuard
  go_enter Tryd.func23, Tryd.ntmps23
  go_upto_region 2 with (go_at_call 11; refine S1.mono ?_; rintro e w1 ⟨v, rfl, ho, b1⟩; obtain ⟨A, c, rfl, hr⟩ := ho.rdn (n := 1) rfl)
  have S2 := take_any 3 A 1 c [(0, 3)] 1 w1 hr (by omega) (hT.below b1)
  go_upto_region 3 with (go_at_call 21; refine S2.mono ?_; rintro e w2 hP; obtain ⟨v2, he, o2, b2⟩ := hP.is take_ex1; unfold bval enc2 at he; simp only at he; subst he; obtain ⟨A2, c2, rfl, r2⟩ := o2.rdn (n := 2) rfl)
  have B2 := b1.trans (b2.mono b1.size)
  have hA := (Below.refl w2.heap.size w2).alloc (Nat.le_refl _) (.cells #[.int .i64 0, .int .i64 1] 32)
  have X3 := Box2.new w2 (0, 1) 32
  have B3 := B2.trans (hA.mono B2.size)
  have r3 := r2.below hA
  have q3 := (hr.below b2).below hA
  clear S1 S2 hA o2
  obtain ⟨k3, hk3⟩ : ∃ k, k = w2.heap.size := ⟨_, rfl⟩
  rw [← hk3] at X3 ⊢
  clear hk3
  generalize w2.alloc (.cells #[.int .i64 0, .int .i64 1] 32) = w3 at X3 B3 r3 q3 ⊢
  have i0 := X3.c0
  have i1 := X3.c1
  have S3 := give_any 3 A2 2 c2 [(2, 1), (4, 2)] (0, 1) w3 r3 (by omega) (hT.below B3)
  unfold bval enc2 at S3
  simp only at S3 i0 i1
  go_upto_region 4 with (go_at_call 24; refine S3.mono ?_; rintro e w4 hP; obtain ⟨v4, rfl, o4, b4⟩ := hP.is give_ex1; obtain ⟨A4, c4, rfl, r4⟩ := o4.rdn (n := 1) rfl)
  have B4 := B3.trans (b4.mono B3.size)
  have S4 := take_any 3 none 0 0 [] 0 w4 RdS.nil (by omega) (hT.below B4)
  clear S3 i0 i1
  go_upto_region 5 with (go_at_call 21; refine S4.mono ?_; rintro e w5 hP; obtain ⟨v5, he, o5, b5⟩ := hP.is take_ex2; unfold bval enc2 at he; simp only at he; subst he; obtain ⟨A5, c5, rfl, r5⟩ := o5.rdn (n := 0) rfl)
  have B5 := B4.trans (b5.mono B4.size)
  have hA := (Below.refl w5.heap.size w5).alloc (Nat.le_refl _) (.cells #[.int .i64 0, .int .i64 0] 32)
  have B6 := B5.trans (hA.mono B5.size)
  have b46 := b4.trans ((b5.trans (hA.mono b5.size)).mono b4.size)
  have r6 := r3.below b46
  have q6 := q3.below b46
  have X6 := X3.below b46
  clear S4 hA o5 o4
  generalize w5.alloc (.cells #[.int .i64 0, .int .i64 0] 32) = w6 at X6 B6 r6 q6 ⊢
  have S5 := give_any 3 A 1 c [(0, 3)] (0, 0) w6 q6 (by omega) (hT.below B6)
  unfold bval enc2 at S5
  simp only at S5
  go_upto_region 6 with (go_at_call 24; refine S5.mono ?_; rintro e w7 hP; obtain ⟨v7, rfl, o7, b7⟩ := hP.is give_ex2)
  have B7 := B6.trans (b7.mono B6.size)
  have X7 := X6.below b7
  have r7 := r6.below b7
  obtain ⟨g, off, x, rfl, hg, hx, y0, y1⟩ := r7.cell (j := 0) (by omega)
  simp at hx
  subst hx
  obtain ⟨g', off', x', hgo, hg', hx', z0, z1⟩ := r7.cell (j := 1) (by omega)
  simp at hx'
  subst hx'
  injection hgo with hgo
  injection hgo with e1 e2
  subst e1
  subst e2
  simp only [Nat.zero_mul, Nat.add_zero, Nat.one_mul] at y0 y1 z0 z1
  have i0 := X7.c0
  have i1 := X7.c1
  simp only at i0 i1
  clear S5 r3 r6 r7 q3 q6 r2 hr ho o7
  go_wp2
  go_ret
  exact ⟨rfl, B7⟩
end Go.Proofs.YthiijnanfiddpaaDoor

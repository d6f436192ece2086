/-
  The walk of the law BuddyBack: it says true, whatever came in, and nothing that was there is written over.
-/
import Derived.Test.YthiijnanfiddpaaDoorBudCount
import Derived.Test.YthiijnanfiddpaaDoorBudLawD
namespace Go.Proofs.YthiijnanfiddpaaDoor
open Go.RowKit

set_option maxRecDepth 100000 in
set_option maxHeartbeats 4000000 in
theorem buddyBack_walk (r t : Int) (A : Option Addr) (m c : Nat) (l : List Blk) (w : World) (hT : Tab w) (h : RdS w A m l) :
    Calls Tryd.prog 6 #[.int .i64 r, .int .i64 t, .slice A m c] w (Holds w) := by
  by_cases hm : 600 < m
  · go_enter Tryd.func6, Tryd.ntmps6
    go_wp2
    go_ret
    exact ⟨rfl, Below.refl _ _⟩
  have t0 : decide (600 < (m : Int)) = false := by simp; omega
  have HR := Lib.hid h
  have HT := Lib.hid hT
  have S2 := take_any r A m c l t w h (by omega) hT
  have SM := fun (W : World) (b : Below w.heap.size w W) => room_any r A m c l t W (h.below b) (by omega) (hT.below b)
  clear h hT
  go_enter Tryd.func6, Tryd.ntmps6
  go_upto_region 4 with (go_at_call 21; refine S2.mono ?_; rintro e w2 ⟨⟨x, o⟩, ms, er, v2, he, res, o2, b2⟩; unfold bval enc2 at he; simp only at he; subst he; obtain ⟨A2, c2, rfl, r2⟩ := o2.rdn (n := ms.length) rfl)
  have hA := (Below.refl w2.heap.size w2).alloc (Nat.le_refl _) (.cells #[.int .i64 x, .int .i64 o] 32)
  have X2 := Box2.new w2 (x, o) 32
  have Ba := b2.trans (hA.mono b2.size)
  have r2a := r2.below hA
  clear S2 hA b2 o2 r2
  obtain ⟨k2, hk2⟩ : ∃ k, k = w2.heap.size := ⟨_, rfl⟩
  rw [← hk2] at X2 ⊢
  clear hk2
  generalize w2.alloc (.cells #[.int .i64 x, .int .i64 o] 32) = wa at X2 Ba r2a ⊢
  have SL := fun W (b : Below w.heap.size w W) => all_law W (HT.out.below b)
  have ST := fun W (b : Below w.heap.size w W) => takes_law W (HT.out.below b)
  rcases res with ⟨h1, h2, h3, rfl⟩ | ⟨h1, h2, h3, h4, rfl⟩ | ⟨h1, h2, rfl, hTk⟩
  · rw [h1, Bool.false_and] at SM
    clear h2 h3
    go_wp2_with (first | (go_at_call 18; refine (SL _ Ba).mono ?_; rintro e w3 ⟨rfl, b3⟩; have B3 := Ba.trans (b3.mono Ba.size)) | (go_at_call 23; refine (ST _ B3).mono ?_; rintro e w4 ⟨rfl, b4⟩; have B4 := B3.trans (b4.mono B3.size)) | (go_at_call 20; refine (SM _ B4).mono ?_; rintro e w5 ⟨rfl, b5⟩))
    go_ret
    first | exact ⟨rfl, B4⟩ | exact ⟨rfl, B4.trans (b5.mono B4.size)⟩
  · rw [h1, h2, Bool.true_and] at SM
    clear h3 h4
    go_wp2_with (first | (go_at_call 18; refine (SL _ Ba).mono ?_; rintro e w3 ⟨rfl, b3⟩; have B3 := Ba.trans (b3.mono Ba.size)) | (go_at_call 23; refine (ST _ B3).mono ?_; rintro e w4 ⟨rfl, b4⟩; have B4 := B3.trans (b4.mono B3.size)) | (go_at_call 20; refine (SM _ B4).mono ?_; rintro e w5 ⟨rfl, b5⟩))
    go_ret
    first | exact ⟨rfl, B4.trans (b5.mono B4.size)⟩ | exact ⟨rfl, B4⟩
  · unfold mayTk at h1
    rw [Bool.and_eq_true, Bool.and_eq_true, decide_eq_true_iff, decide_eq_true_iff, decide_eq_true_iff] at h1
    obtain ⟨hR, ht0, htr⟩ := h1
    have hr8 := hR.1.2
    have hback := hTk.back hR ht0
    have hsum := hTk.sum hR ht0
    obtain ⟨hMb, hbo, _⟩ := hTk.may hR ht0
    simp only at hbo
    subst hbo
    have hRm := (hTk.right hR ht0).1
    have hl2 := hRm.len256
    have hl1 := hR.len256
    have hsz := fun b (hb : b ∈ l) => (may_box hr8 (hR.may hb)).1
    have hszm := fun b (hb : b ∈ ms) => (may_box hr8 (hRm.may hb)).1
    have hs1 := sumL_bound l hsz
    have hs2 := sumL_bound ms hszm
    have S3 := give_any r A2 ms.length c2 ms (x, o) wa r2a (by omega) (HT.out.below Ba)
    have SC := fun (W : World) (b : Below wa.heap.size wa W) => check_any r A2 ms.length c2 ms W (r2a.below b) (by omega) (HT.out.below (Ba.trans (b.mono Ba.size)))
    rw [chkE_yes hRm] at SC
    have SW2 := fun (W : World) (b : Below wa.heap.size wa W) => refWords_any A2 ms.length c2 ms W (r2a.below b) (by omega) hszm
    have SW1 := fun (W : World) (b : Below w.heap.size w W) => refWords_any A m c l W (HR.out.below b) (by omega) hsz
    have SZ := fun W => words_any o W
    rw [wordsI_in ht0 (by omega)] at SZ
    have hmn : m = l.length := HR.out.len.symm
    have Hsum := Lib.hid hsum
    have hwr : IntKind.i64.wrap (sumL ms + sz o) = sumL l := by rw [IntKind.wrap_i64]; omega
    have Hb := Lib.hid hback
    unfold bval enc2 at S3
    simp only at S3
    have i0 := X2.c0
    have i1 := X2.c1
    simp only at i0 i1
    obtain ⟨s1, e1⟩ : ∃ s, s = sumL l := ⟨_, rfl⟩
    obtain ⟨s2, e2⟩ : ∃ s, s = sumL ms := ⟨_, rfl⟩
    obtain ⟨s3, e3⟩ : ∃ s, s = sz o := ⟨_, rfl⟩
    rw [← e1, ← e2, ← e3] at hwr
    rw [← e1] at SW1
    rw [← e2] at SW2
    rw [← e3] at SZ
    clear e1 e2 e3 hsum hback hs1 hs2 hmn
    clear SM h2 hTk
    go_upto_region 7 with (go_at_call 24; refine S3.mono ?_; rintro e w3 hP; obtain ⟨v3, rfl, o3, b3⟩ := hP.is Hb.out; obtain ⟨A3, c3, rfl, r3⟩ := o3.rdn (n := l.length) rfl)
    have B3 := Ba.trans (b3.mono Ba.size)
    have X3 := X2.below b3
    have SS := fun (W : World) (bb : Below w3.heap.size w3 W) => refSame_any A3 A l.length c3 m c l l W (r3.below bb) (HR.out.below (B3.trans (bb.mono B3.size))) (by omega)
    rw [decide_eq_true rfl] at SS
    clear S3 i0 i1 o3 r3
    obtain ⟨n3, hn3⟩ : ∃ n, n = l.length := ⟨_, rfl⟩
    rw [← hn3] at SS ⊢
    clear hn3
    obtain ⟨n2, hn2⟩ : ∃ n, n = ms.length := ⟨_, rfl⟩
    rw [← hn2] at SC SW2 ⊢
    clear hn2
    go_wp2_with (first | (go_at_call 18; refine (SL _ B3).mono ?_; rintro e w4 ⟨rfl, b4⟩; have B4 := B3.trans (b4.mono B3.size)) | (go_at_call 23; refine (ST _ B4).mono ?_; rintro e w5 ⟨rfl, b5⟩; have B5 := B4.trans (b5.mono B4.size); have b35 := b4.trans (b5.mono b4.size); have X5 := X3.below b35; have j0 := X5.c0; have j1 := X5.c1) | (go_at_call 12; refine (SC _ (b3.trans (b35.mono b3.size))).mono ?_; rintro e w6 ⟨rfl, b6⟩; have B6 := B5.trans (b6.mono B5.size); have b36 := b35.trans (b6.mono b35.size)) | (go_at_call 15; refine (SS _ b36).mono ?_; rintro e w7 ⟨rfl, g7⟩; have B7 := B6.trans (g7.below.mono B6.size); have b37 := b36.trans (g7.below.mono b36.size)) | (go_at_call_of 26 n2; refine (SW2 _ (b3.trans (b37.mono b3.size))).mono ?_; rintro e w8 ⟨rfl, rfl⟩) | (go_at_call 19; refine (SZ _).mono ?_; rintro e w9 ⟨rfl, rfl⟩) | (go_at_call 26; refine (SW1 _ B7).mono ?_; rintro e w10 ⟨rfl, rfl⟩))
    go_ret
    exact ⟨by first | rfl | (simp; done) | (simp; omega), B7⟩
end Go.Proofs.YthiijnanfiddpaaDoor

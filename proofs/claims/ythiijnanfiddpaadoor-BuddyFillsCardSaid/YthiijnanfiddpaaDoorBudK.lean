/-
  Giving a block back, by the program: contract of Give.
-/
import Derived.Test.YthiijnanfiddpaaDoorBudJ
import Derived.Test.YthiijnanfiddpaaDoorBudH
namespace Go.Proofs.YthiijnanfiddpaaDoor
open Go.RowKit

set_option maxHeartbeats 1000000 in
theorem give_right (r : Int) (A : Option Addr) (n c : Nat) (l : List Blk) (b : Blk) (w : World) (h : RdS w A n l) (hn : n ≤ 1000) (hT : Tab w) (hR : ¬ Right r l) :
    Calls Tryd.prog 24 #[.int .i64 r, .slice A n c, bval b] w (GivePost w r l b) := by
  have B0 := (Below.refl w.heap.size w).alloc (Nat.le_refl _) (.cells #[.int .i64 b.1, .int .i64 b.2] 32)
  have S : Calls Tryd.prog 32 #[.int .i64 r, .slice A n c] (w.alloc (.cells #[.int .i64 b.1, .int .i64 b.2] 32)) (NoWords (w.alloc (.cells #[.int .i64 b.1, .int .i64 b.2] 32))) := (freeWords_any r A n c l _ (h.below B0) hn (hT.below B0)).mono fun _ _ h => h.elim (fun h => absurd h.1 hR) (fun h => h.2)
  have hres := Lib.hid (show GiveRes r l b [] 1 from .inl ⟨hR, rfl, rfl⟩)
  have HB := Lib.hid B0
  clear h B0 hT
  obtain ⟨y, p⟩ := b
  unfold bval enc2
  simp only at *
  go_enter Tryd.func24, Tryd.ntmps24
  go_wp2_with (go_at_call 32; refine S.mono ?_; rintro e w2 ⟨rfl, b1⟩)
  go_ret2
  exact GivePost.nil hres.out (HB.out.trans (b1.mono HB.out.size))

/-- What giving back does with a right region. -/
theorem words_of {r : Int} {A : Option Addr} {n c : Nat} {l : List Blk} {W : World} (hR : Right r l) (h : RdS W A n l) (hn : n ≤ 1000) (hT : Tab W) :
    Calls Tryd.prog 32 #[.int .i64 r, .slice A n c] W (MapOf W r l) :=
  (freeWords_any r A n c l _ h hn hT).mono fun _ _ h => h.elim (fun h => h.2) (fun h => absurd hR h.1)
set_option maxHeartbeats 1000000 in
theorem give_out (r : Int) (A : Option Addr) (n c : Nat) (l : List Blk) (b : Blk) (w : World) (h : RdS w A n l) (hn : n ≤ 1000) (hT : Tab w) (hR : Right r l) (hF : ¬ Fits r l b) :
    Calls Tryd.prog 24 #[.int .i64 r, .slice A n c, bval b] w (GivePost w r l b) := by
  have B0 := (Below.refl w.heap.size w).alloc (Nat.le_refl _) (.cells #[.int .i64 b.1, .int .i64 b.2] 32)
  have B1 := Box2.new w b 32
  have S := words_of (c := c) hR (h.below B0) hn (hT.below B0)
  have S2 := fun W => mayBe_any r b W (by have := hR.1; omega)
  have hr8 := hR.1.2
  have hres := Lib.hid (show GiveRes r l b [] 41 from .inr (.inl ⟨hR, hF, rfl, rfl⟩))
  have HB := Lib.hid B0
  have HT := Lib.hid hT
  have HRt := Lib.hid hR
  have HF := Lib.hid hF
  clear h B0 hT hR hF
  obtain ⟨y, p⟩ := b
  unfold bval enc2 at *
  simp only at *
  go_enter Tryd.func24, Tryd.ntmps24
  go_upto_region 4 with (go_at_call 32; refine S.mono ?_; rintro e w2 ⟨gm, hm, m, rfl, mA, Mp, hg, hh, b1⟩)
  have Bx := B1.below b1
  have b2 := HB.out.trans (b1.mono HB.out.size)
  have v0 := Bx.c0
  have v1 := Bx.c1
  simp only at v0 v1
  clear S B1 b1
  by_cases hM : May r (y, p)
  · rw [decide_eq_true hM] at S2
    have S3 := fun W (bb : Below w2.heap.size w2 W) => allTaken_any gm hm m (y, p) W (mA.below bb) (HT.out.below (b2.trans (bb.mono b2.size)))
    have ht : allTkn m (y, p) = false := by
      cases ht : allTkn m (y, p) with
      | false => rfl
      | true => exact absurd ⟨hM, (Mp.taken (fun a ha => HRt.out.may ha) hr8 hM).1 ht⟩ HF.out
    rw [ht] at S3
    unfold bval enc2 at S3
    simp only at S3
    clear mA Mp ht hM
    go_wp2_with (first | (go_at_call 44; refine (S2 _).mono ?_; rintro e w3 ⟨rfl, g3⟩; have e0 := (Bx.below g3.below).c0; have e1 := (Bx.below g3.below).c1) | (go_at_call 45; refine (S3 _ g3.below).mono ?_; rintro e w4 ⟨rfl, g4⟩))
    go_ret2
    exact GivePost.nil hres.out (b2.trans ((g3.trans g4).below.mono b2.size))
  · rw [decide_eq_false hM] at S2
    clear mA Mp hM
    go_wp2_with (go_at_call 44; refine (S2 _).mono ?_; rintro e w3 ⟨rfl, g3⟩)
    go_ret2
    exact GivePost.nil hres.out (b2.trans (g3.below.mono b2.size))

set_option maxRecDepth 100000 in
set_option maxHeartbeats 4000000 in
theorem give_in (r : Int) (A : Option Addr) (n c : Nat) (l : List Blk) (b : Blk) (w : World) (h : RdS w A n l) (hn : n ≤ 1000) (hT : Tab w) (hR : Right r l) (hF : Fits r l b) :
    Calls Tryd.prog 24 #[.int .i64 r, .slice A n c, bval b] w (GivePost w r l b) := by
  have B0 := (Below.refl w.heap.size w).alloc (Nat.le_refl _) (.cells #[.int .i64 b.1, .int .i64 b.2] 32)
  have B1 := Box2.new w b 32
  have S := words_of (c := c) hR (h.below B0) hn (hT.below B0)
  have S2 := fun W => mayBe_any r b W (by have := hR.1; omega)
  rw [decide_eq_true hF.1] at S2
  have hr8 := hR.1.2
  have HB := Lib.hid B0
  have HT := Lib.hid hT
  have HRt := Lib.hid hR
  have HF := Lib.hid hF
  have HR := Lib.hid h
  clear h B0 hT hR hF
  obtain ⟨y, p⟩ := b
  unfold bval enc2 at *
  simp only at *
  go_enter Tryd.func24, Tryd.ntmps24
  go_upto_region 4 with (go_at_call 32; refine S.mono ?_; rintro e w2 ⟨gm, hm, m, rfl, mA, Mp, hg, hh, b1⟩)
  have Bx := B1.below b1
  have b2 := HB.out.trans (b1.mono HB.out.size)
  have v0 := Bx.c0
  have v1 := Bx.c1
  simp only at v0 v1
  clear S B1 b1
  have S3 := fun W (bb : Below w2.heap.size w2 W) => allTaken_any gm hm m (y, p) W (mA.below bb) (HT.out.below (b2.trans (bb.mono b2.size)))
  rw [(Mp.taken (fun a ha => HRt.out.may ha) hr8 HF.out.1).2 HF.out.2] at S3
  unfold bval enc2 at S3
  simp only at S3
  clear mA Mp
  go_upto_region 6 with (first | (go_at_call 44; refine (S2 _).mono ?_; rintro e w3 ⟨rfl, g3⟩; have e0 := (Bx.below g3.below).c0; have e1 := (Bx.below g3.below).c1) | (go_at_call 45; refine (S3 _ g3.below).mono ?_; rintro e w4 ⟨rfl, g4⟩))
  have B4 := Bx.below (g3.trans g4).below
  have b4 := b2.trans ((g3.trans g4).below.mono b2.size)
  have S4 := wait_any A n c l w4 (HR.out.below b4) hn
  clear S2 S3 e0 e1 v0 v1 Bx
  go_upto_region 7 with (go_at_call 38; refine S4.mono ?_; rintro e w5 ⟨g, vq, H, he, qa, hp, hheap, b5⟩; unfold qv qcs mSize mLess mSwap mPush mPop at he; subst he)
  have qs5 : QS w4 w4.heap.size w4.heap.size [] g H vq [] (.slice none 0 0) w5 := ⟨qa, hheap, OwnB.nil, (fun e => by cases e), (fun _ _ e => by cases e), (fun _ hr => by cases hr), b5, Nat.le_refl _, b5.size⟩
  have hA := (Below.refl w5.heap.size w5).alloc (Nat.le_refl _) (.cells (qcs g).toArray 66)
  have K6 : Whole (w5.alloc (.cells (qcs g).toArray 66)) w5.heap.size 66 (qcs g) := Whole.new w5 (qcs g).toArray 66
  have qs6 := qs5.add hA (Nat.le_refl _) (by simp)
  have B6 := (B4.below b5).below hA
  have hz : w4.heap.size ≤ w5.heap.size := b5.size
  clear qs5 qa hA S4
  obtain ⟨kq, hkq⟩ : ∃ k, k = w5.heap.size := ⟨_, rfl⟩
  unfold qcs mSize mLess mSwap mPush mPop at K6
  unfold qcs mSize mLess mSwap mPush mPop at qs6
  unfold qcs mSize mLess mSwap mPush mPop at B6
  rw [← hkq] at K6 qs6 ⊢
  clear hkq
  generalize w5.alloc (.cells _ 66) = w6 at B6 K6 qs6 ⊢
  have c0 := K6.cell 0
  have c1 := K6.cell 1
  have c2 := K6.cell 2
  have c3 := K6.cell 3
  have c4 := K6.cell 4
  have c5 := K6.cell 5
  have v0 := B6.c0
  have v1 := B6.c1
  have hHl := hp.length_eq
  have hl256 := HRt.out.len256
  have S5 := qadd_any w4.heap.size g vq H (y, p) w6 qs6.q (by omega) qs6.small hheap
  unfold qv qcs bval enc2 mSize mLess mSwap mPush mPop at S5
  simp only at S5 v0 v1
  go_upto_region 8 with (go_at_call 46; refine S5.mono ?_; rintro e w7 ⟨rfl, H2, vq2, hp2, hheap2, hwt2⟩)
  have qs7 := qs6.waits hwt2 hheap2
  have K7 := K6.keep (qs7.2 _ (List.mem_singleton.2 rfl))
  have hHl2 := hp2.length_eq
  simp only [List.length_append, List.length_singleton] at hHl2
  have S6 := join_any w4.heap.size g vq2 H2 r l (y, p) w7 qs7.1.q hheap2 (by omega) qs7.1.small (JnInv.start HRt.out HF.out (hp2.trans (hp.append_right _)))
  clear c0 c1 c2 c3 c4 c5 v0 v1 S5 K6 hwt2
  have c0 := K7.cell 0
  have c1 := K7.cell 1
  have c2 := K7.cell 2
  have c3 := K7.cell 3
  have c4 := K7.cell 4
  have c5 := K7.cell 5
  have b7 := Lib.hid qs7.1.bel
  have h7 := qs7.1.small
  have h4 := b4.size
  unfold qv qcs mSize mLess mSwap mPush mPop at S6
  clear qs7 K7 qs6 B6 B4
  go_wp2_with (first | (go_at_call 47; refine S6.mono ?_; rintro e w8 ⟨J, vJ, rfl, ho, hinv, hJl, bj⟩) | (go_at_call 41; refine (rising_any w7.heap.size vJ J w8 ho (by omega)).mono ?_; rintro e w9 ⟨J', rfl, hp9, hs9, ho9, gb⟩))
  go_ret2
  have b8 := b4.trans ((b7.out.trans bj).mono h4)
  exact ⟨J', 0, vJ, rfl, .inr (.inr ⟨HRt.out, HF.out, rfl, hinv.done hp9 hs9⟩), ho9.mono (by omega), b8.grown gb b8.size fun k hk => by have := (ho.lt k hk).1; omega⟩

theorem give_any (r : Int) (A : Option Addr) (n c : Nat) (l : List Blk) (b : Blk) (w : World) (h : RdS w A n l) (hn : n ≤ 1000) (hT : Tab w) :
    Calls Tryd.prog 24 #[.int .i64 r, .slice A n c, bval b] w (GivePost w r l b) := by
  by_cases hR : Right r l
  · by_cases hF : Fits r l b
    · exact give_in r A n c l b w h hn hT hR hF
    · exact give_out r A n c l b w h hn hT hR hF
  · exact give_right r A n c l b w h hn hT hR
end Go.Proofs.YthiijnanfiddpaaDoor

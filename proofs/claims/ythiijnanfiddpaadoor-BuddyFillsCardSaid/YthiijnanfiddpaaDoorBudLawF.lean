/-
  The walk of the law BuddyTwo: it says true, whatever came in, and nothing that was there is written over.
-/
import Derived.Test.YthiijnanfiddpaaDoorBudLawE
namespace Go.Proofs.YthiijnanfiddpaaDoor
open Go.RowKit

theorem fits_words {r : Int} {m : List Blk} {b : Blk} : Fits r m b ↔ May r b ∧ ∀ x, InB b x → ¬ Cov m x := by
  constructor
  · rintro ⟨h1, h2⟩
    exact ⟨h1, fun x hx ⟨a, ha, hax⟩ => h2 a ha (meets_of hx hax)⟩
  · rintro ⟨h1, h2⟩
    refine ⟨h1, fun a ha hm => ?_⟩
    have hpa := sz_pos a.2
    have hpb := sz_pos b.2
    exact h2 (max b.1 a.1) (by unfold InB; have := hm.1; have := hm.2; omega) ⟨a, ha, by have := hm.1; have := hm.2; omega, by have := hm.1; have := hm.2; omega⟩
theorem two_ways {r e3 e4 : Int} {l m1 m2 m3 m4 : List Blk} {a b : Blk} (ha : Fits r l a) (hb : Fits r l b) (h1 : Gave r l a m1) (h2 : Gave r l b m2) (h3 : GiveRes r m1 b m3 e3) (h4 : GiveRes r m2 a m4 e4) :
    m3 = m4 ∧ e3 = e4 ∧ (e3 = 41 ∨ (e3 = 0 ∧ Right r m3)) := by
  have key : Fits r m1 b ↔ Fits r m2 a := by
    rw [fits_words, fits_words]
    rw [fits_words] at ha hb
    constructor
    · rintro ⟨_, k⟩
      refine ⟨ha.1, fun x hx hc => ?_⟩
      rcases (h2.2 x).1 hc with e | e
      · exact ha.2 x hx e
      · exact k x e ((h1.2 x).2 (.inr hx))
    · rintro ⟨_, k⟩
      refine ⟨hb.1, fun x hx hc => ?_⟩
      rcases (h1.2 x).1 hc with e | e
      · exact hb.2 x hx e
      · exact k x e ((h2.2 x).2 (.inr hx))
  rcases h3 with ⟨k, _⟩ | ⟨_, k, rfl, rfl⟩ | ⟨_, k, rfl, g⟩
  · exact absurd h1.1 k
  · rcases h4 with ⟨k', _⟩ | ⟨_, _, rfl, rfl⟩ | ⟨_, k', _⟩
    · exact absurd h2.1 k'
    · exact ⟨rfl, rfl, .inl rfl⟩
    · exact absurd (key.2 k') k
  · rcases h4 with ⟨k', _⟩ | ⟨_, k', _⟩ | ⟨_, _, rfl, g'⟩
    · exact absurd h2.1 k'
    · exact absurd (key.1 k) k'
    · refine ⟨canon g.1 g'.1 fun x => ?_, rfl, .inr ⟨rfl, g.1⟩⟩
      rw [g.2, g'.2, h1.2, h2.2]
      constructor <;> (rintro ((h | h) | h) <;> simp [h])

set_option maxRecDepth 100000 in
set_option maxHeartbeats 8000000 in
theorem buddyTwo_walk (r : Int) (A : Option Addr) (m c : Nat) (a b : Blk) (l : List Blk) (w : World) (hT : Tab w) (h : RdS w A m l) :
    Calls Tryd.prog 7 #[.int .i64 r, .slice A m c, bval a, bval b] w (Holds w) := by
  obtain ⟨y, p⟩ := a
  obtain ⟨z, q⟩ := b
  have B0 := (Below.refl w.heap.size w).alloc (Nat.le_refl _) (.cells #[.int .i64 y, .int .i64 p] 32)
  have X0 := Box2.new w (y, p) 32
  have Y0 := Box2.new (w.alloc (.cells #[.int .i64 y, .int .i64 p] 32)) (z, q) 32
  have B1' := (Below.refl _ (w.alloc (.cells #[.int .i64 y, .int .i64 p] 32))).alloc (Nat.le_refl _) (.cells #[.int .i64 z, .int .i64 q] 32)
  have X1 := X0.below B1'
  have B1 := B0.trans (B1'.mono B0.size)
  have hz0 : (w.alloc (.cells #[.int .i64 y, .int .i64 p] 32)).heap.size = w.heap.size + 1 := by simp
  rw [hz0] at Y0
  have HB := Lib.hid B1
  have HX := Lib.hid X1
  have HY := Lib.hid Y0
  clear B0 X0 Y0 B1' X1 B1
  unfold bval enc2
  simp only
  by_cases hm : 600 < m
  · go_enter Tryd.func7, Tryd.ntmps7
    go_wp2
    go_ret
    exact ⟨rfl, HB.out⟩
  have t0 : decide (600 < (m : Int)) = false := by simp; omega
  have HR := Lib.hid h
  have HT := Lib.hid hT
  have S1 := give_any r A m c l (y, p) _ (h.below HB.out) (by omega) (hT.below HB.out)
  unfold bval enc2 at S1
  simp only at S1
  clear h hT
  have i0 := HX.out.c0
  have i1 := HX.out.c1
  simp only at i0 i1
  go_enter Tryd.func7, Tryd.ntmps7
  go_upto_region 4 with (go_at_call 24; refine S1.mono ?_; rintro e w1 ⟨m1, e1, v1, rfl, res1, o1, b1⟩; obtain ⟨A1, c1, rfl, r1⟩ := o1.rdn (n := m1.length) rfl)
  have X1 := HX.out.below b1
  have Y1 := HY.out.below b1
  have B1 := HB.out.trans (b1.mono HB.out.size)
  have S2 := give_any r A m c l (z, q) w1 (HR.out.below B1) (by omega) (HT.out.below B1)
  unfold bval enc2 at S2
  simp only at S2
  clear S1 i0 i1 o1
  have i0 := Y1.c0
  have i1 := Y1.c1
  simp only at i0 i1
  go_upto_region 5 with (go_at_call 24; refine S2.mono ?_; rintro e w2 ⟨m2, e2, v2, rfl, res2, o2, b2⟩; obtain ⟨A2, c2, rfl, r2⟩ := o2.rdn (n := m2.length) rfl)
  have X2 := X1.below b2
  have Y2 := Y1.below b2
  have B2 := B1.trans (b2.mono B1.size)
  have r12 := r1.below b2
  have hl1 := res1.len
  have hl2 := res2.len
  have SL := fun W (b : Below w.heap.size w W) => all_law W (HT.out.below b)
  have ST := fun W (b : Below w.heap.size w W) => takes_law W (HT.out.below b)
  clear S2 i0 i1 o2
  by_cases h12 : e1 = 0 ∧ e2 = 0
  · obtain ⟨rfl, rfl⟩ := h12
    obtain ⟨hF1, hG1⟩ : Fits r l (y, p) ∧ Gave r l (y, p) m1 := by
      rcases res1 with ⟨_, _, e⟩ | ⟨_, _, _, e⟩ | ⟨_, hF, _, hG⟩
      · omega
      · omega
      · exact ⟨hF, hG⟩
    obtain ⟨hF2, hG2⟩ : Fits r l (z, q) ∧ Gave r l (z, q) m2 := by
      rcases res2 with ⟨_, _, e⟩ | ⟨_, _, _, e⟩ | ⟨_, hF, _, hG⟩
      · omega
      · omega
      · exact ⟨hF, hG⟩
    have H1 := Lib.hid hG1
    have H2 := Lib.hid hG2
    have HF1 := Lib.hid hF1
    have HF2 := Lib.hid hF2
    clear hG1 hG2 hF1 hF2 res1 res2
    have S3 := give_any r A1 m1.length c1 m1 (z, q) w2 r12 (by omega) (HT.out.below B2)
    unfold bval enc2 at S3
    simp only at S3
    have i0 := Y2.c0
    have i1 := Y2.c1
    simp only at i0 i1
    obtain ⟨n1, hn1⟩ : ∃ n, n = m1.length := ⟨_, rfl⟩
    rw [← hn1] at S3 ⊢
    clear hn1
    go_upto_region 8 with (go_at_call 24; refine S3.mono ?_; rintro e w3 ⟨m3, e3, v3, rfl, res3, o3, b3⟩; obtain ⟨A3, c3, rfl, r3⟩ := o3.rdn (n := m3.length) rfl)
    have X3 := X2.below b3
    have B3 := B2.trans (b3.mono B2.size)
    have S4 := give_any r A2 m2.length c2 m2 (y, p) w3 (r2.below b3) (by omega) (HT.out.below B3)
    unfold bval enc2 at S4
    simp only at S4
    clear S3 i0 i1 o3
    have i0 := X3.c0
    have i1 := X3.c1
    simp only at i0 i1
    obtain ⟨n2, hn2⟩ : ∃ n, n = m2.length := ⟨_, rfl⟩
    rw [← hn2] at S4 ⊢
    clear hn2
    have hl3 := res3.len
    go_upto_region 9 with (go_at_call 24; refine S4.mono ?_; rintro e w4 ⟨m4, e4, v4, rfl, res4, o4, b4⟩; obtain ⟨A4, c4, rfl, r4⟩ := o4.rdn (n := m4.length) rfl)
    have B4 := B3.trans (b4.mono B3.size)
    have r34 := r3.below b4
    obtain ⟨rfl, rfl, hcase⟩ := two_ways HF1.out HF2.out H1.out H2.out res3 res4
    have SS := fun (W : World) (bb : Below w4.heap.size w4 W) => refSame_any A3 A4 m3.length c3 m3.length c4 m3 m3 W (r34.below bb) (r4.below bb) (by omega)
    rw [decide_eq_true rfl] at SS
    have SC := fun (W : World) (b : Below w4.heap.size w4 W) => check_any r A3 m3.length c3 m3 W (r34.below b) (by omega) (HT.out.below (B4.trans (b.mono B4.size)))
    clear S4 i0 i1 o4 res3 res4
    obtain ⟨n3, hn3⟩ : ∃ n, n = m3.length := ⟨_, rfl⟩
    rw [← hn3] at SS SC ⊢
    clear hn3
    rcases hcase with rfl | ⟨rfl, hRm⟩
    · clear SC
      go_wp2_with (first | (go_at_call 18; refine (SL _ B4).mono ?_; rintro e w5 ⟨rfl, b5⟩; have B5 := B4.trans (b5.mono B4.size)) | (go_at_call 23; refine (ST _ B5).mono ?_; rintro e w6 ⟨rfl, b6⟩; have B6 := B5.trans (b6.mono B5.size); have b46 := b5.trans (b6.mono b5.size)) | (go_at_call 15; refine (SS _ b46).mono ?_; rintro e w7 ⟨rfl, g7⟩; have B7 := B6.trans (g7.below.mono B6.size)))
      go_ret
      exact ⟨by first | rfl | (simp; done), B7⟩
    · rw [chkE_yes hRm] at SC
      go_wp2_with (first | (go_at_call 18; refine (SL _ B4).mono ?_; rintro e w5 ⟨rfl, b5⟩; have B5 := B4.trans (b5.mono B4.size)) | (go_at_call 23; refine (ST _ B5).mono ?_; rintro e w6 ⟨rfl, b6⟩; have B6 := B5.trans (b6.mono B5.size); have b46 := b5.trans (b6.mono b5.size)) | (go_at_call 15; refine (SS _ b46).mono ?_; rintro e w7 ⟨rfl, g7⟩; have B7 := B6.trans (g7.below.mono B6.size); have b47 := b46.trans (g7.below.mono b46.size)) | (go_at_call 12; refine (SC _ b47).mono ?_; rintro e w8 ⟨rfl, b8⟩; have B8 := B7.trans (b8.mono B7.size)))
      go_ret
      exact ⟨by first | rfl | (simp; done), B8⟩
  · by_cases h1 : e1 = 0
    · have h2 : e2 ≠ 0 := fun e => h12 ⟨h1, e⟩
      subst h1
      have k2 : decide (e2 = 0) = false := decide_eq_false h2
      clear h12
      go_wp2_with (first | (go_at_call 18; refine (SL _ B2).mono ?_; rintro e w5 ⟨rfl, b5⟩; have B5 := B2.trans (b5.mono B2.size)) | (go_at_call 23; refine (ST _ B5).mono ?_; rintro e w6 ⟨rfl, b6⟩; have B6 := B5.trans (b6.mono B5.size)))
      go_ret
      exact ⟨rfl, B6⟩
    · have k1 : decide (e1 = 0) = false := decide_eq_false h1
      clear h12
      go_wp2_with (first | (go_at_call 18; refine (SL _ B2).mono ?_; rintro e w5 ⟨rfl, b5⟩; have B5 := B2.trans (b5.mono B2.size)) | (go_at_call 23; refine (ST _ B5).mono ?_; rintro e w6 ⟨rfl, b6⟩; have B6 := B5.trans (b6.mono B5.size)))
      go_ret
      exact ⟨rfl, B6⟩
end Go.Proofs.YthiijnanfiddpaaDoor

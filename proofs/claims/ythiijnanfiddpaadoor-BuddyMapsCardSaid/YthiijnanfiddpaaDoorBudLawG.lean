/-
  The walk of the law BuddyMaps: it says true, whatever came in, and nothing that was there is written over.
-/
import Derived.Test.YthiijnanfiddpaaDoorBudMap
namespace Go.Proofs.YthiijnanfiddpaaDoor
open Go.RowKit

/-- The map of the first free blocks, so far. -/
def MpRel (w : World) (r : Int) (l : List Blk) (g h : Nat) (i : Value) (wr : World) : Prop :=
  ∃ (k : Nat) (m : List Bool), i = .int .i64 (k : Int) ∧ k ≤ l.length ∧ Mapped r (l.take k) m ∧ MapAt wr g h m ∧ Below w.heap.size w wr
/-- The words of what is left, summed so far. -/
def MsRel (W : World) (l : List Blk) (s i : Value) (wr : World) : Prop :=
  ∃ k : Nat, k ≤ l.length ∧ i = .int .i64 (k : Int) ∧ s = .int .i64 (sumL (l.take k)) ∧ Grew W wr
theorem wordsSays (o : Int) (W : World) : Calls Tryd.prog 19 #[.int .i64 o] W (Says W (.int .i64 (wordsI o))) :=
  (words_any o W).mono fun _ _ h => ⟨h.1, h.2 ▸ Grew.refl _⟩
theorem runSays (g h : Nat) (l : List Bool) (a n : Int) (on : Bool) (w : World) (m : MapAt w g h l) (hT : Tab w) :
    Calls Tryd.prog 30 #[.pointer (some ⟨g, 0, none⟩), .int .i64 a, .int .i64 n, .bool on] w (Says w (.int .i64 (runL l a n on))) :=
  (run_any g h l a n on w m hT).mono fun _ _ h => ⟨h.1, h.2 ▸ Grew.refl _⟩

set_option maxRecDepth 100000 in
set_option maxHeartbeats 8000000 in
theorem buddyMaps_walk (r t : Int) (A : Option Addr) (m c : Nat) (l : List Blk) (w : World) (hT : Tab w) (h : RdS w A m l) :
    Calls Tryd.prog 8 #[.int .i64 r, .int .i64 t, .slice A m c] w (Holds w) := by
  have SL := fun W (b : Below w.heap.size w W) => all_law W (hT.below b)
  by_cases hm : 600 < m
  · go_enter Tryd.func8, Tryd.ntmps8
    go_wp2_with (go_at_call 18; refine (SL _ (Below.refl _ _)).mono ?_; rintro e w1 ⟨rfl, b1⟩)
    go_ret
    exact ⟨rfl, b1⟩
  have t0 : decide (600 < (m : Int)) = false := by simp; omega
  have S1 := check_any r A m c l w h (by omega) hT
  have ST := fun W (b : Below w.heap.size w W) => takes_law W (hT.below b)
  by_cases hR : Right r l
  case neg =>
    rw [chkE_no hR] at S1
    clear h hT hR
    go_enter Tryd.func8, Tryd.ntmps8
    go_wp2_with (first | (go_at_call 12; refine S1.mono ?_; rintro e w1 ⟨rfl, b1⟩) | (go_at_call 18; refine (SL _ b1).mono ?_; rintro e w2 ⟨rfl, b2⟩))
    go_ret
    exact ⟨rfl, b1.trans (b2.mono b1.size)⟩
  rw [chkE_yes hR] at S1
  have hr8 := hR.1.2
  have hr3 := hR.1.1
  have hl1 := hR.len256
  have hlen := h.len
  have SW := fun W => words_any r W
  rw [wordsI_in (by omega) hr8] at SW
  have hs0 := sz_pos r
  have hs1 := sz_le256 (o := r) (by omega) hr8
  obtain ⟨k0, hk0⟩ := Int.eq_ofNat_of_zero_le (Int.le_of_lt hs0)
  have hmp := mapped_nil r
  rw [hk0, Int.toNat_natCast] at hmp
  rw [hk0] at SW
  have SN := fun W => new_yes k0 W (by omega)
  have HR := Lib.hid h
  have HT := Lib.hid hT
  have HRt := Lib.hid hR
  have Hlen := Lib.hid hlen
  have mixed := mixedP
  clear h hT hR hlen
  go_enter Tryd.func8, Tryd.ntmps8
  go_upto_region 7 with (first | (go_at_call 12; refine S1.mono ?_; rintro e w1 ⟨rfl, B1⟩) | (go_at_call 19; refine (SW _).mono ?_; rintro e w2 ⟨rfl, rfl⟩) | (go_at_call 27; refine (SN _).mono ?_; rintro e w3 ⟨g, h, rfl, mA, hg, hh, b3⟩))
  have B3 := B1.trans (b3.mono B1.size)
  have hwh : w.heap.size ≤ h := Nat.le_trans B1.size hh
  have Hmp := Lib.hid hmp
  clear S1 SW SN hk0 hs0 hs1 hmp
  go_loopw [9] (MpRel w r l g h) (fun i _ => m - (intOf i).toNat)
  case atStart => exact ⟨0, _, rfl, Nat.zero_le _, Hmp.out, mA, B3⟩
  case round =>
    clear mA B3 b3 B1
    obtain ⟨k, mm, rfl, hk, hM, mA, bw⟩ := hrel
    by_cases hlt : k < m
    · obtain ⟨b, off, x, rfl, hbl, hx, hc0, hc1⟩ := HR.out.cell hlt
      have c0 := (bw.cell (p := ⟨b, off + k * 2, none⟩) hbl).trans hc0
      have c1 := (bw.cell (p := ⟨b, off + k * 2 + 1, none⟩) hbl).trans hc1
      have hki : (k : Int) < (m : Int) := by omega
      have hMx := HRt.out.may (List.mem_of_getElem? hx)
      obtain ⟨p1, p2, p3⟩ := hM.put hMx
      have P := put_any g h mm x.1 (sz x.2) true wr.drew mA (by have := hMx.2.2.2.1; have := sz_pos x.2; have := sz_le256 (o := r) (by omega) hr8; omega)
      rw [p2] at P
      have W1 := fun W => words_any x.2 W
      rw [wordsI_in hMx.1 (by have := hMx.2.1; omega)] at W1
      have Hp := Lib.hid p3
      have Hx := Lib.hid hx
      obtain ⟨x0, x1⟩ := x
      simp only at *
      clear p1 p2 p3 hMx hM hc0 hc1 hx
      go_wp2_with fail
      go_region_with (first | (go_at_call 19; refine (W1 _).mono ?_; rintro e w5 ⟨rfl, rfl⟩) | (go_at_call 28; refine P.mono ?_; rintro e w6 ⟨rfl, m6, g6⟩))
      all_goals
        go_wp2
        go_roundw
        case rel => exact ⟨k + 1, _, by go_num, by have := Hlen.out; omega, by rw [take_snocB Hx.out]; exact Hp.out, m6, below_grown bw.drew g6 bw.size hwh⟩
        case measure => simp [intOf]; omega
    · obtain rfl : k = m := by have := Hlen.out; omega
      have hMl : Mapped r l mm := by rw [List.take_of_length_le (by have := Hlen.out; omega)] at hM; exact hM
      have S4 := take_any r A k c l t wr (HR.out.below bw) (by omega) (HT.out.below bw)
      have HM := Lib.hid hMl
      clear hM hMl Hmp hlt
      go_upto_region 12 with (go_at_call 21; refine S4.mono ?_; rintro e w2 ⟨⟨x, o⟩, ms, er, v2, he, res, o2, b2⟩; unfold bval enc2 at he; simp only at he; subst he; obtain ⟨A2, c2, rfl, _, _, r2, _, hA2⟩ := o2.shape (n := ms.length) rfl)
      have hne2 : ∀ a, A2 = some a → some a.block ≠ some h := fun a ha e => by
        have h1 := (o2.lt _ (hA2 a ha).1).1
        have h2 := mA.lt.2
        injection e with e
        omega
      have hl2 := res.len
      have hA := (Below.refl w2.heap.size w2).alloc (Nat.le_refl _) (.cells #[.int .i64 x, .int .i64 o] 32)
      have X2 := Box2.new w2 (x, o) 32
      have ba := b2.trans (hA.mono b2.size)
      have Ba := bw.trans (ba.mono bw.size)
      have r2a := r2.below hA
      have mAa := mA.below ba
      have Hne2 := Lib.hid hne2
      clear S4 hA b2 o2 r2 mA bw ba hA2 hne2
      obtain ⟨k2, hk2⟩ : ∃ k, k = w2.heap.size := ⟨_, rfl⟩
      rw [← hk2] at X2 ⊢
      clear hk2
      generalize w2.alloc (.cells #[.int .i64 x, .int .i64 o] 32) = wa at X2 Ba r2a mAa ⊢
      have hsz := fun b (hb : b ∈ l) => (may_box hr8 (HRt.out.may hb)).1
      have hs1 := sumL_bound l hsz
      by_cases her : er = 0
      case neg =>
        have herd : er = 1 ∨ er = 40 := by
          rcases res with ⟨_, _, _, e⟩ | ⟨_, _, _, _, e⟩ | ⟨_, _, e, _⟩
          · exact .inl e
          · exact .inr e
          · exact absurd e her
        have SC := fun (W : World) (b : Below wa.heap.size wa W) => count_any g h mm W (mAa.below b)
        rw [HM.out.count HRt.out] at SC
        have SW1 := fun (W : World) (b : Below w.heap.size w W) => refWords_any A k c l W (HR.out.below b) (by omega) hsz
        obtain ⟨s1, e1⟩ : ∃ s, s = sumL l := ⟨_, rfl⟩
        rw [← e1] at SW1 SC
        clear e1 hs1 hsz res her X2 r2a mAa
        rcases herd with rfl | rfl
        all_goals
          go_wp2_with (first | (go_at_call 18; refine (SL _ Ba).mono ?_; rintro e w3 ⟨rfl, b3⟩; have B3 := Ba.trans (b3.mono Ba.size)) | (go_at_call 23; refine (ST _ B3).mono ?_; rintro e w4 ⟨rfl, b4⟩; have B4 := B3.trans (b4.mono B3.size); have b34 := b3.trans (b4.mono b3.size)) | (go_at_call 29; refine (SC _ b34).mono ?_; rintro e w5 ⟨rfl, rfl⟩) | (go_at_call 26; refine (SW1 _ B4).mono ?_; rintro e w6 ⟨rfl, rfl⟩))
          go_ret
          exact ⟨by first | rfl | (simp; done), B4⟩
      subst her
      obtain ⟨h1, hTk⟩ : mayTk r l t = true ∧ Took l t (x, o) ms := by
        rcases res with ⟨_, _, _, e⟩ | ⟨_, _, _, _, e⟩ | ⟨h1, _, _, hTk⟩
        · omega
        · omega
        · exact ⟨h1, hTk⟩
      unfold mayTk at h1
      rw [Bool.and_eq_true, Bool.and_eq_true, decide_eq_true_iff, decide_eq_true_iff, decide_eq_true_iff] at h1
      obtain ⟨_, ht0, htr⟩ := h1
      obtain ⟨hMb, hbo, hcov⟩ := hTk.may HRt.out ht0
      simp only at hbo
      subst hbo
      obtain ⟨hRm, hcm⟩ := hTk.right HRt.out ht0
      have hfound := HM.out.found hMb hcov
      obtain ⟨hpe, hoff⟩ := HM.out.off hMb hcm
      have hbx := may_box hr8 hMb
      have SZ := fun W => wordsSays o W
      rw [wordsI_in ht0 (by omega)] at SZ
      have SZ2 := fun W => words_any o W
      rw [wordsI_in ht0 (by omega)] at SZ2
      have SR := fun W (G : Grew wa W) => runSays g h mm x (sz o) true W (mAa.below G.below) (HT.out.below (Ba.trans (G.below.mono Ba.size)))
      simp only at hfound
      rw [hfound] at SR
      have P := fun W (G : Grew wa W) => put_any g h mm x (sz o) false W (mAa.below G.below) (by omega)
      simp only at hpe
      rw [hpe] at P
      have Hoff := Lib.hid hoff
      have HRm := Lib.hid hRm
      have v0 := X2.g0
      simp only at v0
      clear hoff hRm hfound hpe hcov hcm hTk res hMb
      obtain ⟨s3, hs3⟩ : ∃ s, s = sz o := ⟨_, rfl⟩
      simp only at Hoff
      rw [← hs3] at SZ SZ2 SR P Hoff
      clear hs3
      go_upto_region 14 with (fail)
      refine wp_region_quiet_grown mixed (by kernel_rfl) ?_
      repeat (go_big_quiet_step (first | (go_at_call 19; exact calls_grown_says (SZ _)) | (go_at_call 30; exact calls_grown_says (SR _ ⟨_, _, rfl⟩))))
      refine wpQuiet_nil ?_
      intro _ hw'
      obtain ⟨⟨nq, osq⟩, hw''⟩ := hw'
      subst hw''
      have G4 := (Grew.refl wa).grow nq osq
      generalize Go.Sort.grow (wa.drewN nq) osq = w4 at G4 ⊢
      have d4 := X2.below G4.below
      have e0 := d4.c0
      simp only at e0
      clear v0 SR SZ
      go_upto_region 15 with (fail)
      go_cut [96] (fun v wc => v = .bool false ∧ MapAt wc g h (putV mm x s3 false) ∧ w4.grownBy wc (some h))
      case first =>
        go_region_with (first | (go_at_call 19; refine (SZ2 _).mono ?_; rintro e w5 ⟨rfl, rfl⟩) | (go_at_call 28; refine (P _ G4.drew).mono ?_; rintro e w6 ⟨rfl, m6, g6⟩))
        all_goals
          go_wp2_with fail
          go_meet
          exact ⟨rfl, m6, grown_trans (grown_below (Below.refl _ _).drew _) g6⟩
      case rest =>
        obtain ⟨rfl, m5, g5⟩ := hcut
        have B4 := Ba.trans (G4.below.mono Ba.size)
        have B5 := below_grown B4 g5 B4.size hwh
        have r5 := (r2a.below G4.below).grown g5 Hne2.out
        have hlms := r5.len
        have hszm := fun b (hb : b ∈ ms) => (may_box hr8 (HRm.out.may hb)).1
        have SC := fun (W : World) (b : Below wc.heap.size wc W) => count_any g h (putV mm x s3 false) W (m5.below b)
        rw [Hoff.out.count HRm.out] at SC
        have SR := fun (b : Blk) (hb : b ∈ ms) W (G : Grew wc W) => runSays g h (putV mm x s3 false) b.1 (sz b.2) true W (m5.below G.below) (HT.out.below (B5.trans (G.below.mono B5.size)))
        have HSR := Lib.hid SR
        have Hszm := Lib.hid hszm
        obtain ⟨n2, hn2⟩ : ∃ n, n = ms.length := ⟨_, rfl⟩
        rw [← hn2] at r5 hl2 ⊢
        have HR5 := Lib.hid r5
        have Hn2 := Lib.hid hn2
        clear e0 d4 P SZ2 g5 r5 r2a X2 mAa Ba B4 G4 hlms hszm SR hn2 Hne2 hsz hs1
        go_upto_region 19 with (fail)
        go_loopw [13, 14] (MsRel wc ms) (fun _ i _ => n2 - (intOf i).toNat)
        case atStart => exact ⟨0, Nat.zero_le _, rfl, rfl, Grew.refl _⟩
        case round =>
          obtain ⟨j, hj, rfl, rfl, gr⟩ := hrel
          have hsb := sumL_bound (ms.take j) fun b hm => Hszm.out b (List.mem_of_mem_take hm)
          have htl : (ms.take j).length ≤ 256 := by rw [List.length_take]; have := Hn2.out; omega
          by_cases hlt : j < n2
          · obtain ⟨b', off, ⟨x0, x1⟩, rfl, hbl, hx, hc0, hc1⟩ := HR5.out.cell hlt
            have hxm := List.mem_of_getElem? hx
            have hb1 := Hszm.out _ hxm
            have hR1 := HSR.out _ hxm
            rw [Hoff.out.found (HRm.out.may hxm) (inB_cov hxm)] at hR1
            have hgr := gr.below
            have c0 := (hgr.cell (p := ⟨b', off + j * 2, none⟩) hbl).trans hc0
            have c1 := (hgr.cell (p := ⟨b', off + j * 2 + 1, none⟩) hbl).trans hc1
            have z0 := cell_grown (a := ⟨b', off + j * 2, none⟩) (Nat.lt_of_lt_of_le hbl hgr.size) c0
            have z1 := cell_grown (a := ⟨b', off + j * 2 + 1, none⟩) (Nat.lt_of_lt_of_le hbl hgr.size) c1
            have hst := Lib.hid (show sumL (ms.take (j + 1)) = sumL (ms.take j) + sz x1 by rw [take_snocB hx, sumL_snoc])
            have SZ := fun W => wordsSays x1 W
            simp only at hb1
            rw [wordsI_in hb1.1 hb1.2] at SZ
            have SZ2 := fun W => words_any x1 W
            rw [wordsI_in hb1.1 hb1.2] at SZ2
            have hs2 := sz_le256 hb1.1 hb1.2
            have hs3 := sz_pos x1
            simp only at hR1 z0 z1 c0 c1
            obtain ⟨s, hs⟩ : ∃ s, s = sumL (ms.take j) := ⟨_, rfl⟩
            obtain ⟨z, hz⟩ : ∃ z, z = sz x1 := ⟨_, rfl⟩
            rw [← hs] at hsb hst ⊢
            rw [← hz] at SZ SZ2 hs2 hs3 hst hR1
            have hsb2 : s ≤ 65536 := by omega
            have hsb1 := hsb.1
            have hji : (j : Int) < (n2 : Int) := by omega
            have C0 := Lib.hid c0
            have C1 := Lib.hid c1
            have Gr := Lib.hid gr
            have Hbl := Lib.hid (Nat.lt_of_lt_of_le hbl hgr.size)
            have Hj := Lib.hid hj
            clear hs hz hx hb1 hsb htl hgr hc0 hc1 hxm c0 c1 gr hbl hj
            go_wp2_with fail
            refine wp_region_quiet_grown mixed (by kernel_rfl) ?_
            repeat (go_big_quiet_step (first | (go_at_call 19; exact calls_grown_says (SZ _)) | (go_at_call 30; exact calls_grown_says (hR1 _ (Gr.out.grow _ _)))))
            refine wpQuiet_nil ?_
            intro _ hw'
            obtain ⟨⟨nq, osq⟩, hw''⟩ := hw'
            subst hw''
            have G6 := (Grew.refl wr).grow nq osq
            generalize Go.Sort.grow (wr.drewN nq) osq = w6 at G6 ⊢
            have i0 := (G6.below.cell (p := ⟨b', off + j * 2, none⟩) Hbl.out).trans C0.out
            have i1 := (G6.below.cell (p := ⟨b', off + j * 2 + 1, none⟩) Hbl.out).trans C1.out
            clear z0 z1 hR1 SZ
            go_wp2_with (go_at_call 19; refine (SZ2 _).mono ?_; rintro e w7 ⟨rfl, rfl⟩)
            go_roundw
            case rel => exact ⟨j + 1, by have := Hn2.out; omega, by go_num, by rw [hst.out], Gr.out.trans G6⟩
            case measure => simp [intOf]; omega
          · obtain rfl : j = n2 := by have := Hn2.out; omega
            rw [List.take_of_length_le (by have := Hn2.out; omega)] at hsb ⊢
            obtain ⟨s, hs⟩ : ∃ s, s = sumL ms := ⟨_, rfl⟩
            rw [← hs] at SC ⊢
            have b6 := gr.below
            have B6 := B5.trans (b6.mono B5.size)
            clear hs hsb htl HSR
            go_wp2_with (first | (go_at_call 18; refine (SL _ B6).mono ?_; rintro e w7 ⟨rfl, b7⟩; have B7 := B6.trans (b7.mono B6.size)) | (go_at_call 23; refine (ST _ B7).mono ?_; rintro e w8 ⟨rfl, b8⟩; have B8 := B7.trans (b8.mono B7.size); have b68 := b6.trans ((b7.trans (b8.mono b7.size)).mono b6.size)) | (go_at_call 29; refine (SC _ b68).mono ?_; rintro e w9 ⟨rfl, rfl⟩))
            go_ret
            exact ⟨by first | rfl | (simp; done), B8⟩
end Go.Proofs.YthiijnanfiddpaaDoor

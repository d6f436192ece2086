/-
  The walk of the law ChunkOther: it says true, whatever came in, and nothing that was there is written over.
-/
import Derived.Test.YtjncmfjikoepgaaChOth
namespace Go.Proofs.Ytjncmfjikoepgaa
open Go.RowKit

/-- The sum of a text as the program's own package tells it. -/
theorem sumB_any (p : ByteArray) (A : Option Addr) (l c : Nat) (w : World) (h : Rd w A l p.data.toList) (hl : l ≤ 1000000) :
    Calls Try.prog 22 #[.slice A l c] w (GivesN w (smv p)) := (sum_any A l c _ w h (by unfold maxLen; omega)).mono fun _ _ h => h
set_option maxRecDepth 20000 in
set_option maxHeartbeats 4000000 in
theorem chunkOther_walk (s : ByteArray) (at_ : Int) (p : ByteArray) (w : World) : Calls Try.prog 7 #[.string s, .int .i64 at_, .string p] w (Holds w) := by
  by_cases hb : 5000 < s.size
  · have d1 : decide (5000 < (s.size : Int)) = true := decide_eq_true (by omega)
    go_enter Try.func7, Try.ntmps7
    go_wp2
    go_ret
    exact ⟨rfl, Below.refl _ _⟩
  have d1 : decide (5000 < (s.size : Int)) = false := decide_eq_false (by omega)
  by_cases hb2 : 5000 < p.size
  · have d2 : decide (5000 < (p.size : Int)) = true := decide_eq_true (by omega)
    go_enter Try.func7, Try.ntmps7
    go_wp2
    go_ret
    exact ⟨rfl, Below.refl _ _⟩
  have d2 : decide (5000 < (p.size : Int)) = false := decide_eq_false (by omega)
  have hs : s.size ≤ 65536 := by omega
  have HO := of_yes s w hs
  unfold OfY at HO
  obtain ⟨n, hn⟩ : ∃ n, n = cnt s.size := ⟨_, rfl⟩
  rw [← hn] at HO
  have hn8 : n ≤ 820 := by rw [hn]; exact cnt_le hs
  have Hn := Lib.hid hn
  clear hn
  by_cases hin : 0 ≤ at_ ∧ at_ < n
  case neg =>
    have hlow : ∀ V, Calls Try.prog 21 #[] V (Holds V) := joins_holds
    by_cases ha : at_ < 0
    · have d3 : decide (at_ < 0) = true := decide_eq_true ha
      clear hin
      go_enter Try.func7, Try.ntmps7
      go_wp2_with fail
      refine HO.mono ?_
      rintro e w1 ⟨A, c, rfl, _, _, b1⟩
      have B1 := b1.alloc b1.size (.cells #[.int .i64 s.size, .slice A n c] 24)
      clear HO
      go_wp2_with (first | (go_at_call 14; refine (cuts_holds _).mono ?_; rintro e w2 ⟨rfl, b2⟩) | (go_at_call 21; refine (joins_holds _).mono ?_; rintro e w3 ⟨rfl, b3⟩))
      go_ret
      have q1 := b2.trans (b3.mono b2.size)
      exact ⟨rfl, B1.trans (q1.mono B1.size)⟩
    · have d3 : decide (at_ < 0) = false := decide_eq_false ha
      have d4 : decide ((n : Int) ≤ at_) = true := decide_eq_true (by omega)
      clear hin
      go_enter Try.func7, Try.ntmps7
      go_wp2_with fail
      refine HO.mono ?_
      rintro e w1 ⟨A, c, rfl, _, _, b1⟩
      have B1 := b1.alloc b1.size (.cells #[.int .i64 s.size, .slice A n c] 24)
      clear HO
      go_wp2_with (first | (go_at_call 14; refine (cuts_holds _).mono ?_; rintro e w2 ⟨rfl, b2⟩) | (go_at_call 21; refine (joins_holds _).mono ?_; rintro e w3 ⟨rfl, b3⟩))
      go_ret
      have q1 := b2.trans (b3.mono b2.size)
      exact ⟨rfl, B1.trans (q1.mono B1.size)⟩
  obtain ⟨a, rfl⟩ : ∃ a : Nat, at_ = (a : Int) := ⟨at_.toNat, by omega⟩
  have han : a < n := by omega
  have d3 : decide ((a : Int) < 0) = false := decide_eq_false (by omega)
  have d4 : decide ((n : Int) ≤ (a : Int)) = false := decide_eq_false (by omega)
  have d5 : decide (n ≤ a) = false := decide_eq_false (by omega)
  have ha2 : a < cnt s.size := by rw [← Hn.out]; exact han
  obtain ⟨m, hm⟩ : ∃ m, p.size = m := ⟨_, rfl⟩
  rw [hm] at d2 hb2
  have d6 : decide (5000 < m) = false := decide_eq_false (by omega)
  clear hin
  go_enter Try.func7, Try.ntmps7
  go_wp2_with fail
  refine HO.mono ?_
  rintro e w1 ⟨A, c, rfl, _, r1, b1⟩
  clear HO
  have K1 := Whole.new w1 #[.int .i64 s.size, .slice A n c] 24
  have b12 : Below w1.heap.size w1 (w1.alloc (.cells #[.int .i64 s.size, .slice A n c] 24)) := (Below.refl _ _).alloc (Nat.le_refl _) _
  have H1 := Lib.hid (And.intro K1 (And.intro (b1.trans (b12.mono b1.size)) (r1.below b12)))
  clear b1 K1 b12 r1
  go_upto_if 43 with (fail)
  go_wp2_with fail
  obtain ⟨g, hg⟩ : ∃ g, g = w1.heap.size := ⟨_, rfl⟩
  rw [← hg] at H1 ⊢
  clear hg
  generalize w1.alloc (.cells _ 24) = W at H1 ⊢
  have HK : Hid (∀ V, Below W.heap.size W V → V.cell? ⟨g, 0, none⟩ = some (.int .i64 s.size) ∧ V.cell? ⟨g, 1, none⟩ = some (.slice A n c)) := Lib.hid fun V hV => by
    have k := H1.out.1.below hV
    have k0 := k.cell 0
    have k1 := k.cell 1
    simp only [List.getElem?_cons_succ, List.getElem?_cons_zero] at k0 k1
    exact ⟨k0, k1⟩
  go_loopw [9, 10, 11] (fun v b i wr => ∃ j : Nat, j ≤ n ∧ i = .int .i64 (j : Int) ∧ b = .bool (decide (a < j) && decide (SameM s p a)) ∧ Hid (OwnV 9 wr W.heap.size v (tvs (oth s p a j)) ∧ Below W.heap.size W wr)) (fun _ _ i _ => n - (intOf i).toNat)
  case atStart => exact ⟨0, by omega, rfl, by simp, Lib.hid ⟨OwnV.nil, Below.refl _ _⟩⟩
  case round =>
    obtain ⟨j, hj, rfl, rfl, hW⟩ := hrel
    obtain ⟨k0, k1⟩ := HK.out wr hW.out.2
    by_cases hlt : j < n
    · have hj2 : j < cnt s.size := by rw [← Hn.out]; exact hlt
      have HC := cut_yes s j wr hs hj2
      obtain ⟨q, hq⟩ : ∃ q, q = pce s j := ⟨_, rfl⟩
      obtain ⟨l, hl⟩ : ∃ l, q.size = l := ⟨_, rfl⟩
      have hl2 : l ≤ 80 := by rw [← hl, hq, pce_size hj2]; exact pln_le _ _
      rw [← hq] at HC
      by_cases hja : j = a
      · subst hja
        have HP := Lib.hid (oth_succ_eq s p j)
        have eja : ((j : Int) == (j : Int)) = true := by simp
        have hb0 : (decide (j < j) && decide (SameM s p j)) = false := by simp
        rw [hb0]
        have app : ∀ w5, Below wr.heap.size wr w5 → ∃ v6 w6, (Builtin.append_ #[39, 39] 39 #[u9, .slice (some ⟨w5.heap.size, 0, none⟩) 1 1]).run Try.prog (w5.alloc (.cells #[.string p] 9)) = .ok v6 w6 ∧ Hid (OwnV 9 w6 W.heap.size v6 (tvs (oth s p j (j + 1))) ∧ Below W.heap.size W w6) := fun w5 b5 => by
          have o5 := hW.out.1.below b5
          have B5 := hW.out.2.trans (b5.mono hW.out.2.size)
          obtain ⟨v6, w6, hap, o6, g6, _⟩ := run_app_cell (P := Try.prog) (w := w5) W.heap.size 39 39 9 Try.underlying39 Try.infoStr rfl (by decide) (by decide) _ (tvs (oth s p j j)) o5 (.string p) rfl (by rw [tvs_length, oth_length]; omega) B5.size
          exact ⟨v6, w6, hap, Lib.hid ⟨by rw [HP.out, tvs_append]; exact o6, B5.grown g6 B5.size fun q hq => (o5.lt q hq).1⟩⟩
        have APP := Lib.hid app
        clear app
        by_cases hlm : l = m
        · obtain ⟨x, hx⟩ : ∃ x, x = smv q := ⟨_, rfl⟩
          obtain ⟨y, hy⟩ : ∃ y, y = smv p := ⟨_, rfl⟩
          obtain ⟨bb, hbb⟩ : ∃ bb, bb = decide (SameM s p j) := ⟨_, rfl⟩
          have elm : ((l : Int) == (m : Int)) = true := by rw [beq_iff_eq]; omega
          have exy : ((x : Int) == (y : Int)) = bb := by
            rw [hbb, Bool.eq_iff_iff, beq_iff_eq, decide_eq_true_iff]
            refine ⟨fun h => ⟨by rw [← hq, hl, hm, hlm], by rw [← hq, ← hx, ← hy]; omega⟩, fun h => ?_⟩
            have h2 := h.2
            rw [← hq, ← hx, ← hy] at h2
            omega
          have hb1 : (decide (j < j + 1) && decide (SameM s p j)) = bb := by rw [hbb]; simp
          have HB1 := Lib.hid hb1
          have hm2 : m ≤ 80 := by omega
          have hQ := Lib.hid (And.intro hl hm)
          have HX := Lib.hid (And.intro hx hy)
          have Hlm := Lib.hid hlm
          clear hq hx hy hbb hb1 hb0 hj2 hlm
          go_wp2_with fail
          refine HC.mono ?_
          rintro e w2 ⟨rfl, b2⟩
          obtain ⟨c3, w3, hcv, rd3, b3, _, _⟩ := str_bytes w2 q (by unfold maxLen; omega)
          rw [hl] at hcv rd3
          have HS1 := sumB_any q _ l c3 w3 rd3 (by omega)
          rw [← HX.out.1] at HS1
          unfold GivesN at HS1
          clear rd3 HC
          go_wp2_with fail
          refine HS1.mono ?_
          rintro e w4 ⟨rfl, b4⟩
          obtain ⟨c5, w5, hcv5, rd5, b5, _, _⟩ := str_bytes w4 p (by unfold maxLen; omega)
          rw [hm] at hcv5 rd5
          have HS2 := sumB_any p _ m c5 w5 rd5 (by omega)
          rw [← HX.out.2] at HS2
          unfold GivesN at HS2
          clear rd5 HS1 hcv
          go_wp2_with fail
          refine HS2.mono ?_
          rintro e w6 ⟨rfl, b6⟩
          have q1 := b2.trans (b3.mono b2.size)
          have q2 := q1.trans (b4.mono q1.size)
          have q3 := q2.trans (b5.mono q2.size)
          have q4 := q3.trans (b6.mono q3.size)
          obtain ⟨v7, w7, hap, H7⟩ := APP.out w6 q4
          clear q1 q2 q3 q4 b2 b3 b4 b5 b6 HS2 hcv5
          go_wp2_with (at_builtin; refine wpList_append_run hap rfl _ _ rfl rfl rfl rfl ?_)
          go_roundw
          case rel => exact ⟨j + 1, by omega, by go_num, by rw [HB1.out], H7⟩
          case measure => simp [intOf]; omega
        · have elm : ((l : Int) == (m : Int)) = false := by rw [beq_eq_false_iff_ne]; omega
          have hns : decide (SameM s p j) = false := decide_eq_false fun h => hlm (by rw [← hl, ← hm, hq]; exact h.1)
          have hb1 : (decide (j < j + 1) && decide (SameM s p j)) = false := by rw [hns]; simp
          have HB1 := Lib.hid hb1
          clear hq hb1 hb0 hj2 hns hlm
          go_wp2_with fail
          refine HC.mono ?_
          rintro e w2 ⟨rfl, b2⟩
          obtain ⟨v7, w7, hap, H7⟩ := APP.out w2 b2
          clear HC
          go_wp2_with (at_builtin; refine wpList_append_run hap rfl _ _ rfl rfl rfl rfl ?_)
          go_roundw
          case rel => exact ⟨j + 1, by omega, by go_num, by rw [HB1.out], H7⟩
          case measure => simp [intOf]; omega
      · have HP := Lib.hid (oth_succ_ne (s := s) (p := p) hja)
        have eja : ((j : Int) == (a : Int)) = false := by rw [beq_eq_false_iff_ne]; omega
        have hbe : (decide (a < j) && decide (SameM s p a)) = (decide (a < j + 1) && decide (SameM s p a)) := by
          rw [show decide (a < j) = decide (a < j + 1) from by rw [Bool.eq_iff_iff, decide_eq_true_iff, decide_eq_true_iff]; omega]
        have HBE := Lib.hid hbe
        obtain ⟨bb, hbb⟩ : ∃ bb, bb = (decide (a < j) && decide (SameM s p a)) := ⟨_, rfl⟩
        rw [← hbb] at HBE ⊢
        have app : ∀ w5, Below wr.heap.size wr w5 → ∃ v6 w6, (Builtin.append_ #[39, 39] 39 #[u9, .slice (some ⟨w5.heap.size, 0, none⟩) 1 1]).run Try.prog (w5.alloc (.cells #[.string q] 9)) = .ok v6 w6 ∧ Hid (OwnV 9 w6 W.heap.size v6 (tvs (oth s p a (j + 1))) ∧ Below W.heap.size W w6) := fun w5 b5 => by
          have o5 := hW.out.1.below b5
          have B5 := hW.out.2.trans (b5.mono hW.out.2.size)
          obtain ⟨v6, w6, hap, o6, g6, _⟩ := run_app_cell (P := Try.prog) (w := w5) W.heap.size 39 39 9 Try.underlying39 Try.infoStr rfl (by decide) (by decide) _ (tvs (oth s p a j)) o5 (.string q) rfl (by rw [tvs_length, oth_length]; omega) B5.size
          exact ⟨v6, w6, hap, Lib.hid ⟨by rw [HP.out, tvs_append, ← hq]; exact o6, B5.grown g6 B5.size fun q hq => (o5.lt q hq).1⟩⟩
        have APP := Lib.hid app
        clear app hq hbe hbb hj2 hja
        go_wp2_with fail
        refine HC.mono ?_
        rintro e w2 ⟨rfl, b2⟩
        obtain ⟨v7, w7, hap, H7⟩ := APP.out w2 b2
        clear HC
        go_wp2_with (at_builtin; refine wpList_append_run hap rfl _ _ rfl rfl rfl rfl ?_)
        go_roundw
        case rel => exact ⟨j + 1, by omega, by go_num, by rw [HBE.out], H7⟩
        case measure => simp [intOf]; omega
    · obtain rfl : j = n := by omega
      obtain ⟨A5, c5, rfl, _, _, r5⟩ := OwnV.shape hW.out.1 (n := j) (by rw [tvs_length, oth_length])
      have hb1 : (decide (a < j) && decide (SameM s p a)) = decide (SameM s p a) := by rw [decide_eq_true han]; simp
      rw [hb1]
      clear hb1
      by_cases hsm : SameM s p a
      · rw [decide_eq_true hsm]
        have hok := oth_ok hs ha2 hsm
        have hT := oth_size hsm
        have hM := oth_sms hsm
        rw [← Hn.out] at hok hT hM
        have HJ := join_yes s.size A A5 j c j c5 (sms s) (oth s p a j) wr (H1.out.2.2.below hW.out.2) (by omega) r5 (by omega) hok
        obtain ⟨T, hTT⟩ : ∃ T, T = cat (oth s p a j) := ⟨_, rfl⟩
        rw [← hTT] at HJ hT hM
        have HO2 := Lib.hid fun V => of_yes T V (by omega)
        unfold OfY at HO2
        rw [hT, hM, ← Hn.out] at HO2
        clear hok r5 hsm hTT hM
        go_wp2_with fail
        refine HJ.mono ?_
        rintro e w6 ⟨rfl, b6⟩
        have B6 := hW.out.2.trans (b6.mono hW.out.2.size)
        clear k0 k1 HJ
        go_wp2_with fail
        refine (HO2.out _).mono ?_
        rintro e w7 ⟨A7, c7, rfl, _, r7, b7⟩
        have B7 := B6.trans (b7.mono B6.size)
        have K8 := Whole.new w7 #[.int .i64 s.size, .slice A7 j c7] 24
        have b78 : Below w7.heap.size w7 (w7.alloc (.cells #[.int .i64 s.size, .slice A7 j c7] 24)) := (Below.refl _ _).alloc (Nat.le_refl _) _
        have H8 := Lib.hid (And.intro K8 (And.intro (B7.trans (b78.mono B7.size)) (r7.below b78)))
        clear K8 b78 B7 r7 b7 HO2 B6 b6
        go_upto_region 20 with (fail)
        generalize w7.alloc (.cells _ 24) = W8 at H8 ⊢
        go_wp2_with (first | (go_at_call 14; refine (cuts_holds _).mono ?_; rintro e w9 ⟨rfl, b9⟩) | (go_at_call 21; refine (joins_holds _).mono ?_; rintro e w10 ⟨rfl, b10⟩; have b8 := b9.trans (b10.mono b9.size); have B10 := H8.out.2.1.trans (b8.mono H8.out.2.1.size); have q0 := (H8.out.1.below b8).cell 0; have q1 := (H8.out.1.below b8).cell 1; simp only [List.getElem?_cons_succ, List.getElem?_cons_zero] at q0 q1; obtain ⟨y0, y1⟩ := HK.out w10 B10; have HI2 := ints_any A7 A j c7 j c (sms s) (sms s) w10 (H8.out.2.2.below b8) (H1.out.2.2.below B10) (by omega); rw [decide_eq_true (show sms s = sms s from rfl)] at HI2; clear b9 b10) | (go_at_call 13; refine HI2.mono ?_; rintro e w11 ⟨rfl, b11⟩))
        go_ret
        have q9 := B10.trans (b11.mono B10.size)
        exact ⟨rfl, H1.out.2.1.trans (q9.mono H1.out.2.1.size)⟩
      · rw [decide_eq_false hsm]
        have hok := oth_no ha2 hsm
        rw [← Hn.out] at hok
        have HJ := join_no s.size A A5 j c j c5 (sms s) (oth s p a j) wr (H1.out.2.2.below hW.out.2) (by omega) r5 (by omega) hok
        clear hok r5 hsm
        go_wp2_with fail
        refine HJ.mono ?_
        rintro e w6 ⟨rfl, b6⟩
        have B6 := hW.out.2.trans (b6.mono hW.out.2.size)
        clear k0 k1 HJ
        go_wp2_with (first | (go_at_call 14; refine (cuts_holds _).mono ?_; rintro e w9 ⟨rfl, b9⟩) | (go_at_call 21; refine (joins_holds _).mono ?_; rintro e w10 ⟨rfl, b10⟩))
        go_ret
        have q1 := b9.trans (b10.mono b9.size)
        have q2 := B6.trans (q1.mono B6.size)
        exact ⟨rfl, H1.out.2.1.trans (q2.mono H1.out.2.1.size)⟩
end Go.Proofs.Ytjncmfjikoepgaa

/-
  The walk of the law ChunkBack: it says true, whatever came in, and nothing that was there is written over.
-/
import Derived.Test.YtjncmfjikoepgaaChJo
namespace Go.Proofs.Ytjncmfjikoepgaa
open Go.RowKit

theorem pce_list (s : ByteArray) (k : Nat) : (pce s k).data.toList = (s.data.toList.drop (k * 80)).take 80 := by
  unfold pce pln
  rw [ByteArray.data_extract, Array.toList_extract]
  simp only [List.extract_eq_take_drop]
  rw [show k * 80 + min 80 (s.size - k * 80) - k * 80 = min 80 (s.size - k * 80) by omega]
  by_cases h : 80 ≤ s.size - k * 80
  · rw [Nat.min_eq_left h]
  · rw [Nat.min_eq_right (by omega), List.take_of_length_le (by rw [List.length_drop, list_size]; exact Nat.le_refl _), List.take_of_length_le (by rw [List.length_drop, list_size]; omega)]
theorem cat_pcs_list (s : ByteArray) : ∀ k, (cat (pcs s k)).data.toList = s.data.toList.take (k * 80)
  | 0 => by simp [pcs, cat_nil]
  | k + 1 => by
    rw [pcs_succ, cat_snoc, ByteArray.data_append, Array.toList_append, cat_pcs_list s k, pce_list, Nat.add_mul, Nat.one_mul, List.take_add]
theorem cat_pcs (s : ByteArray) : cat (pcs s (cnt s.size)) = s := by
  apply ByteArray.ext
  apply Array.ext'
  rw [cat_pcs_list, List.take_of_length_le (by rw [list_size]; unfold cnt; omega)]
theorem fits_yes (n : Nat) (A : Option Addr) (k c : Nat) (z : List Int) (j : Nat) (p : ByteArray) (w : World) (hr : RdV w A k (ivs z)) (hk : k ≤ 1000000000) (h1 : RightM n z) (h2 : FitM n z j p) :
    Calls Try.prog 17 #[.agg #[.int .i64 (n : Int), .slice A k c], .int .i64 (j : Int), .string p] w (TellsB w true) := by
  have h := fits_any n A k c z j p w hr hk
  rwa [decide_eq_true (show RightM n z ∧ FitM (n : Int).toNat z j p from ⟨h1, by rw [Int.toNat_natCast]; exact h2⟩)] at h
set_option maxRecDepth 20000 in
set_option maxHeartbeats 4000000 in
theorem chunkBack_walk (s : ByteArray) (w : World) : Calls Try.prog 6 #[.string s] w (Holds w) := by
  by_cases hb : 131072 < s.size
  · go_enter Try.func6, Try.ntmps6
    go_wp2
    go_ret
    exact ⟨rfl, Below.refl _ _⟩
  by_cases hs : s.size ≤ 65536
  case neg =>
    have HO := of_no s w hs (by omega)
    have d1 : decide (65536 < (s.size : Int)) = true := decide_eq_true (by omega)
    have d2 : decide (65536 < s.size) = true := decide_eq_true (by omega)
    clear hs
    go_enter Try.func6, Try.ntmps6
    go_wp2_with fail
    refine HO.mono ?_
    rintro e w1 ⟨rfl, b1⟩
    have B1 := b1.alloc b1.size (.cells #[.int .i64 0, .slice none 0 0] 24)
    clear HO
    go_wp2_with fail
    refine (cuts_holds _).mono ?_
    rintro e w2 ⟨rfl, b2⟩
    go_wp2_with fail
    refine (joins_holds _).mono ?_
    rintro e w3 ⟨rfl, b3⟩
    go_wp2
    go_ret
    have q1 := b2.trans (b3.mono b2.size)
    exact ⟨rfl, B1.trans (q1.mono B1.size)⟩
  have HO := of_yes s w hs
  unfold OfY at HO
  obtain ⟨n, hn⟩ : ∃ n, n = cnt s.size := ⟨_, rfl⟩
  rw [← hn] at HO
  have hn8 : n ≤ 820 := by rw [hn]; exact cnt_le hs
  have Hn := Lib.hid hn
  clear hn
  go_enter Try.func6, Try.ntmps6
  go_wp2_with fail
  refine HO.mono ?_
  rintro e w1 ⟨A, c, rfl, _, r1, b1⟩
  clear HO
  have K1 := Whole.new w1 #[.int .i64 s.size, .slice A n c] 24
  have b12 : Below w1.heap.size w1 (w1.alloc (.cells #[.int .i64 s.size, .slice A n c] 24)) := (Below.refl _ _).alloc (Nat.le_refl _) _
  have H1 := Lib.hid (And.intro K1 (And.intro (b1.trans (b12.mono b1.size)) (r1.below b12)))
  clear b1 K1 b12 r1
  go_upto_if 22 with (fail)
  go_wp2_with fail
  obtain ⟨g, hg⟩ : ∃ g, g = w1.heap.size := ⟨_, rfl⟩
  rw [← hg] at H1 ⊢
  clear hg
  generalize w1.alloc (.cells _ 24) = W at H1 ⊢
  have HK : Hid (∀ V, Below W.heap.size W V → V.cell? ⟨g, 0, none⟩ = some (.int .i64 s.size) ∧ V.cell? ⟨g, 1, none⟩ = some (.slice A n c)) := Lib.hid fun V hV => by
    have k := H1.out.1.below hV
    have k0 := k.cell 0
    have k1 := k.cell 1
    simp only [List.getElem?_cons_succ, List.getElem?_cons_zero] at k0 k1
    exact ⟨k0, k1⟩
  go_loopw [5, 6] (fun v i wr => ∃ j : Nat, j ≤ n ∧ i = .int .i64 (j : Int) ∧ Hid (OwnV 9 wr W.heap.size v (tvs (pcs s j)) ∧ Below W.heap.size W wr)) (fun _ i _ => n - (intOf i).toNat)
  case atStart => exact ⟨0, by omega, rfl, Lib.hid ⟨OwnV.nil, Below.refl _ _⟩⟩
  case round =>
    obtain ⟨j, hj, rfl, hW⟩ := hrel
    obtain ⟨k0, k1⟩ := HK.out wr hW.out.2
    by_cases hlt : j < n
    · have hj2 : j < cnt s.size := by rw [← Hn.out]; exact hlt
      have hf := fit_pce hj2
      have HC := cut_yes s j wr hs hj2
      obtain ⟨p, hp⟩ : ∃ p, p = pce s j := ⟨_, rfl⟩
      obtain ⟨l, hl⟩ : ∃ l, p.size = l := ⟨_, rfl⟩
      have hl1 : 1 ≤ l := by rw [← hl, hp, pce_size hj2]; exact pln_pos hj2
      have hl2 : l ≤ 80 := by rw [← hl, hp, pce_size hj2]; exact pln_le _ _
      rw [← hp] at HC hf
      have HP := Lib.hid (show pcs s (j + 1) = pcs s j ++ [p] by rw [pcs_succ, hp])
      have e1 : decide ((l : Int) < 1) = false := decide_eq_false (by omega)
      have e2 : decide (80 < (l : Int)) = false := decide_eq_false (by omega)
      have e3 : decide (80 < l) = false := decide_eq_false (by omega)
      have HF := Lib.hid fun V (hV : Below W.heap.size W V) => fits_yes s.size A n c (sms s) j p V (H1.out.2.2.below hV) (by omega) (right_sms hs) hf
      clear hp hj2 hf
      go_wp2_with (first | (go_at_call 11; refine HC.mono ?_; rintro e w2 ⟨rfl, b2⟩; have B2 := hW.out.2.trans (b2.mono hW.out.2.size); obtain ⟨y0, y1⟩ := HK.out w2 B2; clear HC) | (go_at_call 17; refine (HF.out _ B2).mono ?_; rintro e w3 ⟨rfl, b3⟩; have B3 := B2.trans (b3.mono B2.size); have o3 := (hW.out.1.below b2).below b3; obtain ⟨v4, w4, hap, o4, g4, _⟩ := run_app_cell (P := Try.prog) (w := w3) W.heap.size 39 39 9 Try.underlying39 Try.infoStr rfl (by decide) (by decide) _ (tvs (pcs s j)) o3 (.string p) rfl (by rw [tvs_length, pcs_length]; omega) B3.size; have B4 : Below W.heap.size W w4 := B3.grown g4 B3.size (fun q hq => (o3.lt q hq).1); have H4 := Lib.hid (And.intro o4 B4); clear o4 g4 B4 o3 y0 y1 k0 k1 HF) | (at_builtin; refine wpList_append_run hap rfl _ _ rfl rfl rfl rfl ?_))
      go_roundw
      case rel => exact ⟨j + 1, by omega, by go_num, Lib.hid ⟨by rw [HP.out, tvs_append]; exact H4.out.1, H4.out.2⟩⟩
      case measure => simp [intOf]; omega
    · obtain rfl : j = n := by omega
      obtain ⟨A5, c5, rfl, _, _, r5⟩ := OwnV.shape hW.out.1 (n := j) (by rw [tvs_length, pcs_length])
      have hok := join_pcs hs
      rw [← Hn.out] at hok
      have HJ := join_yes s.size A A5 j c j c5 (sms s) (pcs s j) wr (H1.out.2.2.below hW.out.2) (by omega) r5 (by omega) hok
      have hcat : cat (pcs s j) = s := by rw [Hn.out]; exact cat_pcs s
      rw [hcat] at HJ
      have HN := Lib.hid fun V => cut_no s (j : Int) V (by omega) (by omega) (fun h => by have h1 := h.2.2; have h2 := Hn.out; omega)
      clear hcat hok r5
      go_wp2_with fail
      refine HJ.mono ?_
      rintro e w6 ⟨rfl, b6⟩
      have B6 := hW.out.2.trans (b6.mono hW.out.2.size)
      obtain ⟨y0, y1⟩ := HK.out w6 B6
      clear k0 k1 HJ
      go_wp2_with fail
      refine (HN.out _).mono ?_
      rintro e w7 ⟨rfl, b7⟩
      have B7 := B6.trans (b7.mono B6.size)
      go_wp2_with fail
      refine (cuts_holds _).mono ?_
      rintro e w8 ⟨rfl, b8⟩
      have B8 := B7.trans (b8.mono B7.size)
      go_wp2_with fail
      refine (joins_holds _).mono ?_
      rintro e w9 ⟨rfl, b9⟩
      have B9 := B8.trans (b9.mono B8.size)
      go_wp2
      go_ret
      exact ⟨rfl, H1.out.2.1.trans (B9.mono H1.out.2.1.size)⟩
end Go.Proofs.Ytjncmfjikoepgaa

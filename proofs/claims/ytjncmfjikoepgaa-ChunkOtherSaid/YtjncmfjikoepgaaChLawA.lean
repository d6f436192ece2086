/-
  The walk of the law ChunkSizes: it says true, whatever came in, and nothing that was there is written over.
-/
import Derived.Test.YtjncmfjikoepgaaChCu
namespace Go.Proofs.Ytjncmfjikoepgaa
open Go.RowKit

set_option maxRecDepth 20000 in
set_option maxHeartbeats 2000000 in
theorem chunkSizes_walk (s : ByteArray) (w : World) : Calls Try.prog 8 #[.string s] w (Holds w) := by
  by_cases hb : 131072 < s.size
  · go_enter Try.func8, Try.ntmps8
    go_wp2
    go_ret
    exact ⟨rfl, Below.refl _ _⟩
  by_cases hs : s.size ≤ 65536
  case neg =>
    have HO := of_no s w hs (by omega)
    clear hs
    go_enter Try.func8, Try.ntmps8
    go_wp2_with fail
    refine HO.mono ?_
    rintro e w1 ⟨rfl, b1⟩
    have B1 := b1.alloc b1.size (.cells #[.int .i64 0, .slice none 0 0] 24)
    clear HO
    go_wp2_with fail
    refine (cuts_holds _).mono ?_
    rintro e w2 ⟨rfl, b2⟩
    go_wp2
    go_ret
    exact ⟨rfl, B1.trans (b2.mono B1.size)⟩
  have HO := of_yes s w hs
  unfold OfY at HO
  obtain ⟨n, hn⟩ : ∃ n, n = cnt s.size := ⟨_, rfl⟩
  rw [← hn] at HO
  have hn8 : n ≤ 820 := by rw [hn]; exact cnt_le hs
  have Hn := Lib.hid hn
  clear hn
  go_enter Try.func8, Try.ntmps8
  go_wp2_with fail
  refine HO.mono ?_
  rintro e w1 ⟨A, c, rfl, _, _, b1⟩
  clear HO
  have K1 := Whole.new w1 #[.int .i64 s.size, .slice A n c] 24
  have B1 := b1.alloc b1.size (.cells #[.int .i64 s.size, .slice A n c] 24)
  have H1 := Lib.hid (And.intro K1 B1)
  clear b1 K1 B1
  go_upto_if 18 with (fail)
  go_wp2_with fail
  obtain ⟨g, hg⟩ : ∃ g, g = w1.heap.size := ⟨_, rfl⟩
  rw [← hg] at H1 ⊢
  clear hg
  generalize w1.alloc (.cells _ 24) = W at H1 ⊢
  go_loopw [5, 6] (fun v i wr => ∃ (j q : Nat), j ≤ n ∧ i = .int .i64 (j : Int) ∧ v = .int .i64 (q : Int) ∧ Hid (q = min (j * 80) s.size) ∧ Hid (Below W.heap.size W wr)) (fun _ i _ => n - (intOf i).toNat)
  case atStart => exact ⟨0, 0, by omega, rfl, rfl, Lib.hid (by omega), Lib.hid (Below.refl _ _)⟩
  case round =>
    obtain ⟨j, q, hj, rfl, rfl, hQ, hW⟩ := hrel
    have k := H1.out.1.below hW.out
    have k0 := k.cell 0
    have k1 := k.cell 1
    simp only [List.getElem?_cons_succ, List.getElem?_cons_zero] at k0 k1
    clear k
    by_cases hlt : j < n
    · have hj2 : j < cnt s.size := by rw [← Hn.out]; exact hlt
      have hj80 := cnt_lt.1 hj2
      have hq : q = j * 80 := by rw [hQ.out]; omega
      obtain ⟨p, hp⟩ : ∃ p, p = pce s j := ⟨_, rfl⟩
      obtain ⟨l, hl⟩ : ∃ l, p.size = l := ⟨_, rfl⟩
      have hln : l = pln s.size j := by rw [← hl, hp, pce_size hj2]
      obtain ⟨r, hr⟩ : ∃ r, r = q + l := ⟨_, rfl⟩
      have hrs : r ≤ s.size := by rw [hr, hq, hln]; exact pln_in hj2
      have hx : s.extract q r = p := by rw [hr, hq, hln, hp]; rfl
      have HC := cut_yes s j wr hs hj2
      rw [← hp] at HC
      have e1 : (q : Int) + (l : Int) = (r : Int) := by omega
      have e2 : decide ((s.size : Int) < (r : Int)) = false := decide_eq_false (by omega)
      have e3 : q ≤ r := by omega
      have e6 : decide (s.size < r) = false := decide_eq_false (by omega)
      have hR : r = min ((j + 1) * 80) s.size := by rw [hr, hq, hln]; unfold pln; omega
      have HR := Lib.hid hR
      have HK := Lib.hid H1.out
      clear hp hq hr hj80 hR
      by_cases hl1 : j + 1 < n
      · have e4 : decide ((j : Int) + 1 < (n : Int)) = true := decide_eq_true (by omega)
        have e5 : ((l : Int) == 80) = true := by
          rw [beq_iff_eq, hln]
          have := cnt_lt.1 (show j + 1 < cnt s.size by rw [← Hn.out]; exact hl1)
          unfold pln
          omega
        clear hln hj2
        go_wp2_with (go_at_call 11; refine HC.mono ?_; rintro e w2 ⟨rfl, b2⟩; have y := (H1.out.1.below (hW.out.trans (b2.mono hW.out.size))).cell 1; simp only [List.getElem?_cons_succ, List.getElem?_cons_zero] at y; clear HC)
        go_roundw
        case rel => exact ⟨j + 1, r, by omega, by go_num, rfl, HR, Lib.hid (hW.out.trans (b2.mono hW.out.size))⟩
        case measure => simp [intOf]; omega
      · have e4 : decide ((j : Int) + 1 < (n : Int)) = false := decide_eq_false (by omega)
        clear hln hj2
        go_wp2_with (go_at_call 11; refine HC.mono ?_; rintro e w2 ⟨rfl, b2⟩; have y := (H1.out.1.below (hW.out.trans (b2.mono hW.out.size))).cell 1; simp only [List.getElem?_cons_succ, List.getElem?_cons_zero] at y; clear HC)
        go_roundw
        case rel => exact ⟨j + 1, r, by omega, by go_num, rfl, HR, Lib.hid (hW.out.trans (b2.mono hW.out.size))⟩
        case measure => simp [intOf]; omega
    · obtain rfl : j = n := by omega
      have hq : q = s.size := by rw [hQ.out, Hn.out]; unfold cnt; omega
      subst hq
      have hKW := fun V (hV : Below wr.heap.size wr V) => H1.out.1.below (hW.out.trans (hV.mono hW.out.size))
      have HKW := Lib.hid hKW
      clear hKW
      go_wp2_with (go_at_call 14; refine (cuts_holds _).mono ?_; rintro e w2 ⟨rfl, b2⟩; have y := (HKW.out _ b2).cell 0; simp only [List.getElem?_cons_zero] at y)
      go_ret
      have q1 := hW.out.trans (b2.mono hW.out.size)
      exact ⟨rfl, H1.out.2.trans (q1.mono H1.out.2.size)⟩
end Go.Proofs.Ytjncmfjikoepgaa

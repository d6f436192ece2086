/-
  Package tumulusref10: Right, Cut, Sums: contracts.
-/
import Derived.Test.YtjncmfjikoepgaaChRef
import Derived.Test.YtjncmfjikoepgaaChOf
namespace Go.Proofs.Ytjncmfjikoepgaa
open Go.RowKit

set_option maxRecDepth 20000 in
set_option maxHeartbeats 1000000 in
theorem refRight_any (n : Int) (A : Option Addr) (k c : Nat) (z : List Int) (w : World) (hr : RdV w A k (ivs z)) (hk : k ≤ 1000000000) :
    Calls Try.prog 16 #[.int .i64 n, .slice A k c] w fun e w' => e = .returned (.bool (decide (RightM n z))) ∧ w = w' := by
  obtain ⟨b, hb⟩ : ∃ b, b = decide (RightM n z) := ⟨_, rfl⟩
  rw [← hb]
  have HD := Lib.hid hb
  clear hb
  have hl : z.length = k := by have := hr.len; rwa [ivs_length] at this
  have HY := may_any n w
  by_cases hm : 0 ≤ n ∧ n ≤ 65536
  case neg =>
    rw [decide_eq_false hm] at HY
    obtain rfl : b = false := HD.out.trans (decide_eq_false (fun h => hm h.1))
    clear hm
    go_enter Try.func16, Try.ntmps16
    go_wp2_with (go_at_call 25; refine HY.mono ?_; rintro e w1 ⟨rfl, rfl⟩)
    go_ret
    exact ⟨rfl, rfl⟩
  rw [decide_eq_true hm] at HY
  have Hm := Lib.hid hm
  obtain ⟨m, rfl⟩ : ∃ m : Nat, n = (m : Int) := ⟨n.toNat, by omega⟩
  have HM := many_any m w (by omega)
  by_cases hq : k = cnt m
  case neg =>
    obtain rfl : b = false := HD.out.trans (decide_eq_false (fun h => hq (by have := h.2.1; rw [hl, Int.toNat_natCast] at this; exact this)))
    obtain ⟨q, hqd⟩ : ∃ q, q = cnt m := ⟨_, rfl⟩
    rw [← hqd] at HM
    have hne : ((k : Int) == (q : Int)) = false := by rw [beq_eq_false_iff_ne]; omega
    clear hm hq hqd hl hr
    go_enter Try.func16, Try.ntmps16
    go_wp2_with (first | (go_at_call 25; refine HY.mono ?_; rintro e w1 ⟨rfl, rfl⟩) | (go_at_call 26; refine HM.mono ?_; rintro e w1 ⟨rfl, rfl⟩))
    go_ret
    exact ⟨rfl, rfl⟩
  rw [← hq] at HM
  have Hq := Lib.hid (And.intro hq hl)
  have HR := Lib.hid hr
  clear hm hq hl hr
  go_enter Try.func16, Try.ntmps16
  go_wp2_with (first | (go_at_call 25; refine HY.mono ?_; rintro e w1 ⟨rfl, rfl⟩) | (go_at_call 26; refine HM.mono ?_; rintro e w1 ⟨rfl, rfl⟩))
  clear HY HM
  go_loop [5] (fun i => ∃ j : Nat, j ≤ k ∧ i = .int .i64 (j : Int) ∧ Hid (SumsM (z.take j))) (fun i => k - (intOf i).toNat)
  case atStart => exact ⟨0, by omega, rfl, Lib.hid (fun x h => by simp at h)⟩
  case round =>
    obtain ⟨j, hj, rfl, hS⟩ := hrel
    by_cases hlt : j < k
    · obtain ⟨g, off, u, rfl, _, hu, hc⟩ := HR.out.cell hlt
      obtain ⟨x, hx, rfl⟩ := ivs_get hu
      have Hx := Lib.hid hx
      clear hu hx
      by_cases h0 : x < 0
      · have d0 : decide (x < 0) = true := decide_eq_true h0
        obtain rfl : b = false := HD.out.trans (decide_eq_false fun h => sums_bad Hx.out (by omega) h.2.2)
        go_wp2
        go_ret
        exact ⟨rfl, rfl⟩
      · have d0 : decide (x < 0) = false := decide_eq_false h0
        by_cases h1 : 4294967295 < x
        · have d1 : decide (4294967295 < x) = true := decide_eq_true h1
          obtain rfl : b = false := HD.out.trans (decide_eq_false fun h => sums_bad Hx.out (by omega) h.2.2)
          go_wp2
          go_ret
          exact ⟨rfl, rfl⟩
        · have d1 : decide (4294967295 < x) = false := decide_eq_false h1
          have HS := Lib.hid (sums_take hS.out Hx.out (by omega) (by omega))
          go_wp2
          refine ⟨⟨j + 1, by omega, by go_num, HS⟩, by simp [intOf]; omega⟩
    · obtain rfl : j = k := by omega
      have hS2 := hS.out
      rw [List.take_of_length_le (by rw [Hq.out.2]; exact Nat.le_refl _)] at hS2
      obtain rfl : b = true := HD.out.trans (decide_eq_true ⟨Hm.out, by rw [Hq.out.2, Int.toNat_natCast]; exact Hq.out.1, hS2⟩)
      clear hS2
      go_wp2
      go_ret
      exact ⟨rfl, rfl⟩
/-- What the document's Cut tells. -/
def RefCutP (w : World) (s : ByteArray) (i : Int) (e : Ending) (w' : World) : Prop :=
  (((s.size ≤ 65536 ∧ 0 ≤ i ∧ i < cnt s.size) ∧ e = .returned (.tuple #[.string (pce s i.toNat), .int .i64 0])) ∨
    (¬ (s.size ≤ 65536 ∧ 0 ≤ i ∧ i < cnt s.size) ∧ e = .returned (.tuple #[.string ⟨#[]⟩, .int .i64 100]))) ∧ w = w'
set_option maxRecDepth 20000 in
set_option maxHeartbeats 1000000 in
theorem refCut_any (s : ByteArray) (i : Int) (w : World) (hs : s.size ≤ 1000000) :
    Calls Try.prog 12 #[.string s, .int .i64 i] w (RefCutP w s i) := by
  have HY := may_any s.size w
  by_cases hm : s.size ≤ 65536
  case neg =>
    rw [decide_eq_false (show ¬ ((0 : Int) ≤ (s.size : Int) ∧ (s.size : Int) ≤ 65536) from fun h => by omega)] at HY
    have Hm := Lib.hid hm
    clear hm
    go_enter Try.func12, Try.ntmps12
    go_wp2_with (go_at_call 25; refine HY.mono ?_; rintro e w1 ⟨rfl, rfl⟩)
    go_ret2
    exact ⟨.inr ⟨fun h => Hm.out h.1, rfl⟩, rfl⟩
  rw [decide_eq_true (show (0 : Int) ≤ (s.size : Int) ∧ (s.size : Int) ≤ 65536 from by omega)] at HY
  have HL := refLen_any s.size i w hs
  by_cases hi : 0 ≤ i ∧ i < cnt s.size
  case neg =>
    have hx : lenI s.size i = -1 := if_neg hi
    rw [hx] at HL
    have Hi := Lib.hid hi
    clear hi hx
    go_enter Try.func12, Try.ntmps12
    go_wp2_with (first | (go_at_call 25; refine HY.mono ?_; rintro e w1 ⟨rfl, rfl⟩) | (go_at_call 29; refine HL.mono ?_; rintro e w1 ⟨rfl, rfl⟩))
    go_ret2
    exact ⟨.inr ⟨fun h => Hi.out h.2, rfl⟩, rfl⟩
  obtain ⟨j, rfl⟩ : ∃ j : Nat, i = (j : Int) := ⟨i.toNat, by omega⟩
  have hj : j < cnt s.size := by omega
  obtain ⟨p, hp⟩ : ∃ p, p = pln s.size j := ⟨_, rfl⟩
  obtain ⟨q, hq⟩ : ∃ q, q = j * 80 := ⟨_, rfl⟩
  have hx : lenI s.size j = (p : Int) := by unfold lenI; rw [if_pos hi, Int.toNat_natCast, hp]
  rw [hx] at HL
  obtain ⟨r, hr⟩ : ∃ r, r = q + p := ⟨_, rfl⟩
  have e1 : (j : Int) * 80 = (q : Int) := by omega
  have e2 : (q : Int) + (p : Int) = (r : Int) := by omega
  have e3 : q ≤ r := by omega
  have e4 : r ≤ s.size := by rw [hr, hq, hp]; exact pln_in hj
  have hP : s.extract q r = pce s j := by rw [hr, hq, hp]; rfl
  have HPP := Lib.hid hP
  have Hi := Lib.hid hi
  have e5 : decide ((p : Int) < 0) = false := decide_eq_false (by omega)
  clear hp hq hx hr hj hi hP
  go_enter Try.func12, Try.ntmps12
  go_wp2_with (first | (go_at_call 25; refine HY.mono ?_; rintro e w1 ⟨rfl, rfl⟩) | (go_at_call 29; refine HL.mono ?_; rintro e w1 ⟨rfl, rfl⟩))
  go_ret2
  exact ⟨.inl ⟨⟨hm, Hi.out⟩, by rw [Int.toNat_natCast, ← HPP.out]; rfl⟩, rfl⟩
/-- What the document's Sums tells. -/
def RefSumsP (w : World) (s : ByteArray) (e : Ending) (w' : World) : Prop :=
  ((s.size ≤ 65536 ∧ ∃ v, e = .returned (.tuple #[v, .int .i64 0]) ∧ OwnV 3 w' w.heap.size v (ivs (sms s))) ∨
    (¬ s.size ≤ 65536 ∧ e = .returned (.tuple #[.slice none 0 0, .int .i64 100]))) ∧ Below w.heap.size w w'
set_option maxRecDepth 20000 in
set_option maxHeartbeats 1000000 in
theorem refSums_any (s : ByteArray) (w : World) (hs : s.size ≤ 1000000) :
    Calls Try.prog 10 #[.string s] w (RefSumsP w s) := by
  have HY := may_any s.size w
  by_cases hm : s.size ≤ 65536
  case neg =>
    rw [decide_eq_false (show ¬ ((0 : Int) ≤ (s.size : Int) ∧ (s.size : Int) ≤ 65536) from fun h => by omega)] at HY
    have Hm := Lib.hid hm
    clear hm
    go_enter Try.func10, Try.ntmps10
    go_wp2_with (go_at_call 25; refine HY.mono ?_; rintro e w1 ⟨rfl, rfl⟩)
    go_ret2
    exact ⟨.inr ⟨Hm.out, rfl⟩, Below.refl _ _⟩
  rw [decide_eq_true (show (0 : Int) ≤ (s.size : Int) ∧ (s.size : Int) ≤ 65536 from by omega)] at HY
  obtain ⟨k, hk⟩ : ∃ k, k = cnt s.size := ⟨_, rfl⟩
  have hk8 : k ≤ 820 := by rw [hk]; exact cnt_le hm
  have HM := fun V => many_any s.size V hs
  rw [← hk] at HM
  have Hk := Lib.hid hk
  clear hk
  go_enter Try.func10, Try.ntmps10
  go_wp2_with (go_at_call 25; refine HY.mono ?_; rintro e w1 ⟨rfl, rfl⟩)
  clear HY
  go_loopw [4, 5] (fun v i wr => ∃ j : Nat, j ≤ k ∧ i = .int .i64 (j : Int) ∧ Hid (OwnV 3 wr w.heap.size v (ivs (smsTo s j)) ∧ Below w.heap.size w wr)) (fun _ i _ => k - (intOf i).toNat)
  case atStart => exact ⟨0, by omega, rfl, Lib.hid ⟨OwnV.nil, Below.refl _ _⟩⟩
  case round =>
    obtain ⟨j, hj, rfl, hW⟩ := hrel
    have HMr := HM wr
    by_cases hlt : j < k
    · have hps : (pce s j).size ≤ 80 := by rw [pce_size (by rw [← Hk.out]; exact hlt)]; exact pln_le _ _
      have HC := (refCut_any s (j : Int) wr hs).mono (R' := fun e w' => e = .returned (.tuple #[.string (pce s j), .int .i64 0]) ∧ wr = w') fun e w' ⟨h1, h2⟩ => by
        refine ⟨?_, h2⟩
        rcases h1 with ⟨_, h⟩ | ⟨h, _⟩
        · rw [Int.toNat_natCast] at h
          exact h
        · exact absurd ⟨hm, by omega, by rw [← Hk.out]; omega⟩ h
      have HP := Lib.hid (smsTo_succ s j)
      obtain ⟨p, hp⟩ : ∃ p, p = pce s j := ⟨_, rfl⟩
      obtain ⟨n, hn⟩ : ∃ n, n = (sumOf p.data.toList).toNat := ⟨_, rfl⟩
      have HPn := Lib.hid (show smv (pce s j) = n by rw [hn, ← hp]; rfl)
      rw [← hp] at HC hps
      obtain ⟨c1, w2, hcv, hrd, hb2, _, _⟩ := str_bytes wr p (by unfold maxLen; omega)
      obtain ⟨m, hmz⟩ : ∃ m, m = p.size := ⟨_, rfl⟩
      rw [← hmz] at hcv hrd
      have HS := refSum_any _ m c1 _ w2 hrd (by omega)
      rw [← hn] at HS
      have hbw : Below w.heap.size w w2 := hW.out.2.trans (hb2.mono hW.out.2.size)
      have ho : OwnV 3 w2 w.heap.size _ (ivs (smsTo s j)) := hW.out.1.below hb2
      obtain ⟨v3, w3, hap, o3, g3, _⟩ := run_app_cell (P := Try.prog) (w := w2) w.heap.size 22 22 3 Try.underlying22 Try.infoIntL rfl (by decide) (by decide) _ (ivs (smsTo s j)) ho (.int .i64 (n : Int)) rfl (by rw [ivs_length, smsTo_length]; omega) hbw.size
      have hb3 : Below w.heap.size w w3 := hbw.grown g3 hbw.size fun q hq => (ho.lt q hq).1
      have hiv : ivs (smsTo s j) ++ [.int .i64 (n : Int)] = ivs (smsTo s (j + 1)) := by rw [HP.out, ivs_append, HPn.out]; rfl
      rw [hiv] at o3
      have HW := Lib.hid (And.intro o3 hb3)
      clear hp hn hrd hb2 hbw ho o3 g3 hb3 hiv hps hmz
      go_wp2_with (first | (at_builtin; refine wpList_append_run hap rfl _ _ rfl rfl rfl rfl ?_) | (go_at_call 26; refine HMr.mono ?_; rintro e w1 ⟨rfl, rfl⟩) | (go_at_call 12; refine HC.mono ?_; rintro e w1 ⟨rfl, rfl⟩) | (go_at_call 27; refine HS.mono ?_; rintro e w1 ⟨rfl, rfl⟩))
      go_roundw
      case rel => exact ⟨j + 1, by omega, by go_num, HW⟩
      case measure => simp [intOf]; omega
    · obtain rfl : j = k := by omega
      have hW2 := hW.out
      rw [Hk.out] at hW2
      have HW2 := Lib.hid hW2
      clear hW2
      go_wp2_with (go_at_call 26; refine HMr.mono ?_; rintro e w1 ⟨rfl, rfl⟩)
      go_ret2
      exact ⟨.inl ⟨hm, _, rfl, HW2.out.1⟩, HW2.out.2⟩
end Go.Proofs.Ytjncmfjikoepgaa

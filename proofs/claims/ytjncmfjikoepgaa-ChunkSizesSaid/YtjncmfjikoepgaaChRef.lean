/-
  Package tumulusref10: the document's own answers: contracts.
-/
import Derived.Test.YtjncmfjikoepgaaSumR
import Derived.Test.YtjncmfjikoepgaaChFit
namespace Go.Proofs.Ytjncmfjikoepgaa
open Go.RowKit

theorem not_num2 (v : BitVec 32) : bits .xor .u32 (v.toNat : Int) 4294967295 = ((~~~v).toNat : Int) := by
  have h1 := v.isLt
  rw [u32_xor _ _ (by omega) (by omega) (by omega) (by omega), ← BitVec.xor_allOnes, BitVec.toNat_xor, Int.toNat_natCast]
  rfl
set_option maxHeartbeats 400000 in
theorem refSum_any (A : Option Addr) (n c : Nat) (l : List UInt8) (w : World) (hb : Rd w A n l) (hn : n ≤ 70368744177664) :
    Calls Try.prog 27 #[.slice A n c] w fun e w' => e = .returned (.int .i64 ((sumOf l).toNat : Int)) ∧ w = w' := by
  have h := refWord_any (~~~0#32) A n c l w hb hn
  rw [show (((~~~0#32).toNat : Nat) : Int) = 4294967295 from rfl] at h
  have Hn := Lib.hid (not_num2 (wrd (~~~0#32) l))
  go_enter Try.func27, Try.ntmps27
  go_wp2_with fail
  refine h.mono ?_
  rintro e w1 ⟨rfl, rfl⟩
  clear h
  have hv : wrap64 (bits .xor .u32 ((wrd (~~~0#32) l).toNat : Int) 4294967295) = ((sumOf l).toNat : Int) := by
    rw [Hn.out]
    have hlt := (sumOf l).isLt
    show wrap64 ((sumOf l).toNat : Int) = _
    unfold wrap64; omega
  have Hv := Lib.hid hv
  clear hv
  go_wp2
  go_ret
  exact ⟨congrArg (fun m => Ending.returned (.int .i64 m)) Hv.out, rfl⟩
set_option maxHeartbeats 400000 in
theorem many_any (n : Nat) (w : World) (hn : n ≤ 1000000) :
    Calls Try.prog 26 #[.int .i64 (n : Int)] w fun e w' => e = .returned (.int .i64 ((cnt n : Nat) : Int)) ∧ w = w' := by
  obtain ⟨k, hk⟩ : ∃ k, k = cnt n := ⟨_, rfl⟩
  have h1 : ((n : Int) + 80 - 1) / 80 = (k : Int) := by rw [hk]; unfold cnt; omega
  rw [← hk]
  clear hk
  go_enter Try.func26, Try.ntmps26
  go_wp2
  go_ret
  exact ⟨by simp only [h1]; rfl, rfl⟩
set_option maxHeartbeats 400000 in
theorem may_any (n : Int) (w : World) :
    Calls Try.prog 25 #[.int .i64 n] w fun e w' => e = .returned (.bool (decide (0 ≤ n ∧ n ≤ 65536))) ∧ w = w' := by
  by_cases h0 : 0 ≤ n
  · have d0 : decide (0 ≤ n) = true := decide_eq_true h0
    by_cases h1 : n ≤ 65536
    · rw [decide_eq_true (show 0 ≤ n ∧ n ≤ 65536 from ⟨h0, h1⟩)]
      have d1 : decide (n ≤ 65536) = true := decide_eq_true h1
      go_enter Try.func25, Try.ntmps25
      go_wp2
      go_ret
      exact ⟨rfl, rfl⟩
    · rw [decide_eq_false (show ¬ (0 ≤ n ∧ n ≤ 65536) from fun h => h1 h.2)]
      have d1 : decide (n ≤ 65536) = false := decide_eq_false h1
      go_enter Try.func25, Try.ntmps25
      go_wp2
      go_ret
      exact ⟨rfl, rfl⟩
  · rw [decide_eq_false (show ¬ (0 ≤ n ∧ n ≤ 65536) from fun h => h0 h.1)]
    have d0 : decide (0 ≤ n) = false := decide_eq_false h0
    go_enter Try.func25, Try.ntmps25
    go_wp2
    go_ret
    exact ⟨rfl, rfl⟩
/-- How long the piece in a place is; -1: there is none. -/
def lenI (n : Nat) (i : Int) : Int := if 0 ≤ i ∧ i < cnt n then (pln n i.toNat : Int) else -1
set_option maxHeartbeats 1000000 in
theorem refLen_any (n : Nat) (i : Int) (w : World) (hn : n ≤ 1000000) :
    Calls Try.prog 29 #[.int .i64 (n : Int), .int .i64 i] w fun e w' => e = .returned (.int .i64 (lenI n i)) ∧ w = w' := by
  obtain ⟨x, hx⟩ : ∃ x, x = lenI n i := ⟨_, rfl⟩
  rw [← hx]
  obtain ⟨k, hk⟩ : ∃ k, k = cnt n := ⟨_, rfl⟩
  have HM := fun V => many_any n V hn
  rw [← hk] at HM
  have Hk := Lib.hid hk
  by_cases h0 : i < 0
  · have d0 : decide (i < 0) = true := decide_eq_true h0
    obtain rfl : x = -1 := hx.trans (if_neg (by omega))
    clear hx
    go_enter Try.func29, Try.ntmps29
    go_wp2
    go_ret
    exact ⟨rfl, rfl⟩
  have d0 : decide (i < 0) = false := decide_eq_false h0
  by_cases h1 : (k : Int) ≤ i
  · have d1 : decide ((k : Int) ≤ i) = true := decide_eq_true h1
    obtain rfl : x = -1 := hx.trans (if_neg (by rw [← hk]; omega))
    clear hx hk
    go_enter Try.func29, Try.ntmps29
    go_wp2_with (go_at_call 26; refine (HM _).mono ?_; rintro e w1 ⟨rfl, rfl⟩)
    go_ret
    exact ⟨rfl, rfl⟩
  · have d1 : decide ((k : Int) ≤ i) = false := decide_eq_false h1
    obtain ⟨j, rfl⟩ : ∃ j : Nat, i = (j : Int) := ⟨i.toNat, by omega⟩
    obtain ⟨p, hp⟩ : ∃ p, p = pln n j := ⟨_, rfl⟩
    obtain rfl : x = (p : Int) := hx.trans (by unfold lenI; rw [if_pos (by rw [← hk]; omega), Int.toNat_natCast, hp])
    obtain ⟨q, hq⟩ : ∃ q, q = j * 80 := ⟨_, rfl⟩
    have hjk : j < cnt n := by rw [← hk]; omega
    have hq1 := cnt_lt.1 hjk
    have e1 : (j : Int) * 80 = (q : Int) := by omega
    have e3 : min (80 : Int) ((n : Int) - (q : Int)) = (p : Int) := by rw [hp]; unfold pln; omega
    have hqn : q ≤ n := by omega
    clear hx hk hp hq hjk hq1
    go_enter Try.func29, Try.ntmps29
    go_wp2_with (go_at_call 26; refine (HM _).mono ?_; rintro e w1 ⟨rfl, rfl⟩)
    go_ret
    exact ⟨by first | rfl | simp only [e3], rfl⟩
end Go.Proofs.Ytjncmfjikoepgaa

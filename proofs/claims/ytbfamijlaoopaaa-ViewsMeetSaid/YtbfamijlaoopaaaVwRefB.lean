/-
  The document's Next and Enough: contracts.
-/
import Derived.Test.YtbfamijlaoopaaaVwRefA
namespace Go.Proofs.Ytbfamijlaoopaaa
open Go.RowKit
def NxRel (W : World) (n v id : Int) (N : Nat) (i : Value) (wr : World) : Prop := ∃ k : Nat, 1 ≤ k ∧ k ≤ N + 1 ∧ i = .int .i64 (k : Int) ∧ nextFrom n v id 1 N = nextFrom n v id k (N + 1 - k) ∧ wr = W
set_option maxHeartbeats 1000000 in
theorem rnext_any (n v id : Int) (w : World) : Calls Try.prog 17 #[.int .i64 n, .int .i64 v, .int .i64 id] w fun e w' => e = .returned (.int .i64 (nextV n v id)) ∧ w' = w := by
  have HN := rnodes_any n w
  have HV := rview_any v w
  cases hn : isN n
  · rw [show nextV n v id = -1 by unfold nextV; rw [hn]; rfl]
    rw [hn] at HN
    go_enter Try.func17, Try.ntmps17
    go_wp2_with (go_at_call 13; refine HN.mono ?_; rintro x W2 ⟨rfl, rfl⟩)
    go_ret
    exact ⟨rfl, rfl⟩
  · cases hv : isV v
    · rw [show nextV n v id = -1 by unfold nextV; rw [hn, hv]; rfl]
      rw [hn] at HN
      rw [hv] at HV
      go_enter Try.func17, Try.ntmps17
      go_wp2_with (first | (go_at_call 13; refine HN.mono ?_; rintro x W2 ⟨rfl, rfl⟩) | (go_at_call 27; refine HV.mono ?_; rintro x W2 ⟨rfl, rfl⟩))
      go_ret
      exact ⟨rfl, rfl⟩
    · rw [hn] at HN
      rw [hv] at HV
      have hb := isV_iff.1 hv
      obtain ⟨N, rfl⟩ : ∃ N : Nat, n = (N : Int) := ⟨n.toNat, by have := isN_cases hn; omega⟩
      have hN7 : N ≤ 7 := by have := isN_cases hn; omega
      have HE := Lib.hid (show nextV (N : Int) v id = nextFrom (N : Int) v id 1 N by unfold nextV; rw [hn, hv]; rfl)
      rw [HE.out]
      clear hn hv
      go_enter Try.func17, Try.ntmps17
      go_wp2_with (first | (go_at_call 13; refine HN.mono ?_; rintro x W2 ⟨rfl, rfl⟩) | (go_at_call 27; refine HV.mono ?_; rintro x W2 ⟨rfl, rfl⟩))
      clear HN HV
      go_loopw [7] (NxRel W2 N v id N) (fun i _ => N + 1 - (Go.RowKit.intOf i).toNat)
      case atStart => exact ⟨1, Nat.le_refl _, by omega, rfl, by rw [Nat.add_sub_cancel], rfl⟩
      case round =>
        obtain ⟨k, h1, hk, rfl, hx, rfl⟩ := hrel
        have Hx := Lib.hid hx
        clear hx
        by_cases hlt : k ≤ N
        · have hki : (k : Int) ≤ (N : Int) := by omega
          have HP := rprim_any N (v + (k : Int)) wr
          have hstep : nextFrom N v id k (N + 1 - k) = if prim N (v + (k : Int)) = id ∧ 0 < id then v + (k : Int) else nextFrom N v id (k + 1) (N - k) := by
            rw [show N + 1 - k = (N - k) + 1 by omega]
            rfl
          rw [hstep] at Hx
          by_cases he : prim N (v + (k : Int)) = id
          · have hd : (prim N (v + (k : Int)) == id) = true := by simp [he]
            have hd2 : decide (prim N (v + (k : Int)) = id) = true := by simp [he]
            by_cases h0 : 0 < id
            · rw [if_pos ⟨he, h0⟩] at Hx
              clear hstep he
              generalize prim N (v + (k : Int)) = P at HP hd hd2
              go_wp2_with (go_at_call 15; refine HP.mono ?_; rintro x W3 ⟨rfl, rfl⟩)
              go_ret
              exact ⟨by rw [Hx.out]; rfl, rfl⟩
            · rw [if_neg fun h => h0 h.2] at Hx
              clear hstep he
              generalize prim N (v + (k : Int)) = P at HP hd hd2
              go_wp2_with (go_at_call 15; refine HP.mono ?_; rintro x W3 ⟨rfl, rfl⟩)
              go_roundw
              case rel => exact ⟨k + 1, by omega, by omega, by go_num, by rw [Hx.out, show N + 1 - (k + 1) = N - k by omega], rfl⟩
              case measure => simp [Go.RowKit.intOf]; omega
          · have hd : (prim N (v + (k : Int)) == id) = false := by simp [he]
            have hd2 : decide (prim N (v + (k : Int)) = id) = false := by simp [he]
            rw [if_neg fun h => he h.1] at Hx
            clear hstep he
            generalize prim N (v + (k : Int)) = P at HP hd hd2
            go_wp2_with (go_at_call 15; refine HP.mono ?_; rintro x W3 ⟨rfl, rfl⟩)
            go_roundw
            case rel => exact ⟨k + 1, by omega, by omega, by go_num, by rw [Hx.out, show N + 1 - (k + 1) = N - k by omega], rfl⟩
            case measure => simp [Go.RowKit.intOf]; omega
        · have hki : ¬ ((k : Int) ≤ (N : Int)) := by omega
          obtain rfl : k = N + 1 := by omega
          have Hy := Lib.hid (show nextFrom N v id 1 N = -1 by rw [Hx.out, Nat.sub_self]; rfl)
          go_wp2
          go_ret
          exact ⟨by rw [Hy.out]; rfl, rfl⟩
def EnRel (W : World) (p : Int → Bool) (c i : Value) (wr : World) : Prop := ∃ k : Nat, k ≤ 7 ∧ i = .int .i64 ((k : Int) + 1) ∧ c = .int .i64 ((cntN p k : Nat) : Int) ∧ wr = W
set_option maxHeartbeats 1000000 in
theorem renough_any {A : Option Addr} {m c : Nat} {l : List Int} {w : World} (h : RdN w A m l) (hm : m ≤ 1000000) (n : Int) : Calls Try.prog 19 #[.int .i64 n, .slice A m c] w fun e w' => e = .returned (.bool (enough n l)) ∧ w' = w := by
  obtain ⟨p, hp⟩ : ∃ p : Int → Bool, p = fun k => decide (k ≤ n) && decide (k ∈ l) := ⟨_, rfl⟩
  have HP := Lib.hid hp
  have HR := Lib.hid h
  clear h hp
  have HN := fun W => rnodes_any n W
  go_enter Try.func19, Try.ntmps19
  go_wp2
  go_loopw [5, 6] (EnRel w p) (fun _ i _ => 8 - (Go.RowKit.intOf i).toNat)
  case atStart => exact ⟨0, by omega, rfl, rfl, rfl⟩
  case round =>
    obtain ⟨k, hk, rfl, rfl, rfl⟩ := hrel
    have hc := cntN_le p k
    by_cases hlt : k < 7
    · have hki : (k : Int) + 1 ≤ 7 := by omega
      have HI := rin_any (c := c) HR.out hm ((k : Int) + 1)
      have hs := cntN_succ p k
      have hpk : p ((k + 1 : Nat) : Int) = (decide ((k : Int) + 1 ≤ n) && decide ((k : Int) + 1 ∈ l)) := by rw [HP.out, show ((k + 1 : Nat) : Int) = (k : Int) + 1 by omega]
      rw [hpk] at hs
      clear hpk
      by_cases h1 : (k : Int) + 1 ≤ n
      · rw [decide_eq_true h1, Bool.true_and] at hs
        generalize decide ((k : Int) + 1 ∈ l) = q at hs HI
        have Hs := Lib.hid hs
        clear hs
        cases q
        · go_wp2_with (go_at_call 31; refine HI.mono ?_; rintro x W3 ⟨rfl, rfl⟩)
          go_roundw
          case rel => exact ⟨k + 1, by omega, by go_num, by rw [Hs.out]; simp, rfl⟩
          case measure => simp [Go.RowKit.intOf]; omega
        · go_wp2_with (go_at_call 31; refine HI.mono ?_; rintro x W3 ⟨rfl, rfl⟩)
          go_roundw
          case rel => exact ⟨k + 1, by omega, by go_num, by rw [Hs.out]; simp, rfl⟩
          case measure => simp [Go.RowKit.intOf]; omega
      · rw [decide_eq_false h1, Bool.false_and] at hs
        have Hs := Lib.hid hs
        clear hs HI
        go_wp2
        go_roundw
        case rel => exact ⟨k + 1, by omega, by go_num, by rw [Hs.out]; simp, rfl⟩
        case measure => simp [Go.RowKit.intOf]; omega
    · obtain rfl : k = 7 := by omega
      have HE := Lib.hid (show enough n l = (isN n && decide (n < 2 * (cntN p 7 : Int))) by rw [HP.out]; rfl)
      generalize cntN p 7 = C at hc HE
      have HN := HN wr
      cases hn : isN n
      · rw [hn] at HN HE
        go_wp2_with (go_at_call 13; refine HN.mono ?_; rintro x W2 ⟨rfl, rfl⟩)
        go_ret
        exact ⟨by rw [HE.out]; simp, rfl⟩
      · rw [hn] at HN HE
        go_wp2_with (go_at_call 13; refine HN.mono ?_; rintro x W2 ⟨rfl, rfl⟩)
        go_ret
        exact ⟨by rw [HE.out]; simp, rfl⟩
end Go.Proofs.Ytbfamijlaoopaaa

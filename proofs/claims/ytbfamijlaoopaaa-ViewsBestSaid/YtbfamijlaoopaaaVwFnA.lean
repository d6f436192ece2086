/-
  The program's own Nodes, isView, isNode, Primary, fewest: contracts.
-/
import Derived.Test.YtbfamijlaoopaaaVwOwnM
namespace Go.Proofs.Ytbfamijlaoopaaa
open Go.RowKit
set_option maxHeartbeats 400000 in
theorem vnodes0 (n : Int) (w : World) : Calls Try.prog 12 #[.int .i64 n] w fun e w' => e = .returned (.bool (isN n)) ∧ w' = w := by
  by_cases h3 : n = 3
  · subst h3
    go_enter Try.func12, Try.ntmps12
    go_wp2
    go_ret
    exact ⟨rfl, rfl⟩
  · by_cases h5 : n = 5
    · subst h5
      go_enter Try.func12, Try.ntmps12
      go_wp2
      go_ret
      exact ⟨rfl, rfl⟩
    · have e3 : decide (n = 3) = false := by simp [h3]
      have e5 : decide (n = 5) = false := by simp [h5]
      have b3 : (n == 3) = false := by simp [h3]
      have b5 : (n == 5) = false := by simp [h5]
      have he : isN n = decide (n = 7) := by unfold isN; rw [b3, b5]; simp [Bool.beq_eq_decide_eq]
      rw [he]
      clear he
      by_cases h7 : n = 7
      · subst h7
        go_enter Try.func12, Try.ntmps12
        go_wp2
        go_ret
        exact ⟨rfl, rfl⟩
      · have e7 : decide (n = 7) = false := by simp [h7]
        have b7 : (n == 7) = false := by simp [h7]
        rw [e7]
        go_enter Try.func12, Try.ntmps12
        go_wp2
        go_ret
        exact ⟨rfl, rfl⟩
set_option maxHeartbeats 400000 in
theorem isview0 (v : Int) (w : World) : Calls Try.prog 26 #[.int .i64 v] w fun e w' => e = .returned (.bool (isV v)) ∧ w' = w := by
  unfold isV
  by_cases h0 : 0 ≤ v
  · rw [decide_eq_true h0]
    go_enter Try.func26, Try.ntmps26
    go_wp2
    go_ret
    exact ⟨rfl, rfl⟩
  · rw [decide_eq_false h0]
    go_enter Try.func26, Try.ntmps26
    go_wp2
    go_ret
    exact ⟨rfl, rfl⟩
set_option maxHeartbeats 400000 in
theorem vprim0 (n v : Int) (w : World) : Calls Try.prog 14 #[.int .i64 n, .int .i64 v] w fun e w' => e = .returned (.int .i64 (prim n v)) ∧ w' = w := by
  have HN := vnodes0 n w
  have HV := isview0 v w
  cases hn : isN n
  · rw [prim_no (.inl hn)]
    rw [hn] at HN
    go_enter Try.func14, Try.ntmps14
    go_wp2_with (go_at_call 12; refine HN.mono ?_; rintro x W2 ⟨rfl, rfl⟩)
    go_ret
    exact ⟨rfl, rfl⟩
  · cases hv : isV v
    · rw [prim_no (.inr hv)]
      rw [hn] at HN
      rw [hv] at HV
      go_enter Try.func14, Try.ntmps14
      go_wp2_with (first | (go_at_call 12; refine HN.mono ?_; rintro x W2 ⟨rfl, rfl⟩) | (go_at_call 26; refine HV.mono ?_; rintro x W2 ⟨rfl, rfl⟩))
      go_ret
      exact ⟨rfl, rfl⟩
    · rw [prim_yes hn hv]
      rw [hn] at HN
      rw [hv] at HV
      have hb := isV_iff.1 hv
      have hnn := isN_cases hn
      have hne : n ≠ 0 := by omega
      have htm : Int.tmod v n = v % n := Int.tmod_eq_emod_of_nonneg hb.1
      have h1 : 0 ≤ v % n := Int.emod_nonneg _ hne
      have h2 : v % n < 7 := Int.lt_of_lt_of_le (Int.emod_lt_of_pos _ (by omega)) (by omega)
      clear hv hn hnn
      go_enter Try.func14, Try.ntmps14
      go_wp2_with (first | (go_at_call 12; refine HN.mono ?_; rintro x W2 ⟨rfl, rfl⟩) | (go_at_call 26; refine HV.mono ?_; rintro x W2 ⟨rfl, rfl⟩))
      go_ret
      exact ⟨rfl, rfl⟩
def isNd (n id : Int) : Bool := decide (1 ≤ id) && decide (id ≤ n)
theorem isNd_iff {n id : Int} : isNd n id = true ↔ 1 ≤ id ∧ id ≤ n := by simp [isNd]
set_option maxHeartbeats 400000 in
theorem isnode0 (n id : Int) (w : World) : Calls Try.prog 28 #[.int .i64 n, .int .i64 id] w fun e w' => e = .returned (.bool (isNd n id)) ∧ w' = w := by
  unfold isNd
  by_cases h0 : 1 ≤ id
  · rw [decide_eq_true h0]
    go_enter Try.func28, Try.ntmps28
    go_wp2
    go_ret
    exact ⟨rfl, rfl⟩
  · rw [decide_eq_false h0]
    go_enter Try.func28, Try.ntmps28
    go_wp2
    go_ret
    exact ⟨rfl, rfl⟩
set_option maxHeartbeats 400000 in
theorem fewest0 (N : Nat) (hN : N ≤ 1000) (w : World) : Calls Try.prog 30 #[.int .i64 (N : Int)] w fun e w' => e = .returned (.int .i64 ((N / 2 + 1 : Nat) : Int)) ∧ w' = w := by
  have htm : Int.tdiv (N : Int) 2 = ((N / 2 : Nat) : Int) := by
    rw [Int.tdiv_eq_ediv_of_nonneg (by omega)]; omega
  have hp : ((N / 2 + 1 : Nat) : Int) = ((N / 2 : Nat) : Int) + 1 := by omega
  rw [hp]
  have hq : N / 2 ≤ 1000 := by omega
  generalize N / 2 = q at htm hq
  clear hp
  go_enter Try.func30, Try.ntmps30
  go_wp2
  go_ret
  exact ⟨rfl, rfl⟩
end Go.Proofs.Ytbfamijlaoopaaa

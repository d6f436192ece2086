/-
  What the small functions of the region do, the program's and the document's: sizes, whether a block may be, twins: contracts, one a function.
-/
import Derived.Test.YthiijnanfiddpaaDoorBlks
import Derived.Test.YthiijnanfiddpaaDoorBitsE
import Derived.Laws.ShiftsVarLaws
import Derived.BigQuiet
import Derived.Deep.QuietTactic
namespace Go.Proofs.YthiijnanfiddpaaDoor
open Go.RowKit

/-- A call tells this, and what was there stays. -/
def Tells (w : World) (v : Value) (e : Ending) (w' : World) : Prop := e = .returned v ∧ Below w.heap.size w w'
def wordsI (o : Int) : Int := if 0 ≤ o ∧ o ≤ 8 then sz o else 0
theorem wordsI_in {o : Int} (h : 0 ≤ o) (h8 : o ≤ 8) : wordsI o = sz o := if_pos ⟨h, h8⟩

set_option maxHeartbeats 400000 in
theorem words_any (o : Int) (w : World) : Calls Tryd.prog 19 #[.int .i64 o] w fun e w' => e = .returned (.int .i64 (wordsI o)) ∧ w = w' := by
  by_cases h : 0 ≤ o ∧ o ≤ 8
  · rw [wordsI_in h.1 h.2]
    rcases ords h.1 h.2 with h | h | h | h | h | h | h | h | h <;> subst h
    all_goals
      go_enter Tryd.func19, Tryd.ntmps19
      go_wp2
      go_ret
      exact ⟨rfl, rfl⟩
  · have e : wordsI o = 0 := if_neg h
    rw [e]
    by_cases h0 : o < 0
    · go_enter Tryd.func19, Tryd.ntmps19
      go_wp2
      go_ret
      exact ⟨rfl, rfl⟩
    · have h1 : 8 < o := by omega
      clear e h
      go_enter Tryd.func19, Tryd.ntmps19
      go_wp2
      go_ret
      exact ⟨rfl, rfl⟩

set_option maxHeartbeats 400000 in
theorem isRegion_any (o : Int) (w : World) : Calls Tryd.prog 31 #[.int .i64 o] w fun e w' => e = .returned (.bool (decide (3 ≤ o ∧ o ≤ 8))) ∧ w = w' := by
  by_cases h : 3 ≤ o
  · by_cases h8 : o ≤ 8
    · rw [decide_eq_true ⟨h, h8⟩]
      go_enter Tryd.func31, Tryd.ntmps31
      go_wp2
      go_ret
      exact ⟨rfl, rfl⟩
    · rw [decide_eq_false (by omega)]
      go_enter Tryd.func31, Tryd.ntmps31
      go_wp2
      go_ret
      exact ⟨rfl, rfl⟩
  · rw [decide_eq_false (by omega)]
    go_enter Tryd.func31, Tryd.ntmps31
    go_wp2
    go_ret
    exact ⟨rfl, rfl⟩

set_option maxHeartbeats 400000 in
theorem refRegion_any (o : Int) (w : World) : Calls Tryd.prog 14 #[.int .i64 o] w fun e w' => e = .returned (.bool (decide (3 ≤ o ∧ o ≤ 8))) ∧ w = w' := by
  by_cases h : 3 ≤ o
  · by_cases h8 : o ≤ 8
    · rw [decide_eq_true ⟨h, h8⟩]
      go_enter Tryd.func14, Tryd.ntmps14
      go_wp2
      go_ret
      exact ⟨rfl, rfl⟩
    · rw [decide_eq_false (by omega)]
      go_enter Tryd.func14, Tryd.ntmps14
      go_wp2
      go_ret
      exact ⟨rfl, rfl⟩
  · rw [decide_eq_false (by omega)]
    go_enter Tryd.func14, Tryd.ntmps14
    go_wp2
    go_ret
    exact ⟨rfl, rfl⟩

set_option maxHeartbeats 400000 in
theorem refSize_any (o : Int) (w : World) (h0 : 0 ≤ o) (h8 : o ≤ 8) : Calls Tryd.prog 16 #[.int .i64 o] w fun e w' => e = .returned (.int .i64 (sz o)) ∧ w = w' := by
  obtain ⟨k, rfl⟩ := Int.eq_ofNat_of_zero_le h0
  have hk : k ≤ 8 := by omega
  clear h0 h8
  go_enter Tryd.func16, Tryd.ntmps16
  go_wp2
  go_loop [3, 4] (fun n i => ∃ j : Nat, j ≤ k ∧ i = .int .i64 j ∧ n = .int .i64 (sz (j : Int))) (fun _ i => k - (intOf i).toNat)
  case atStart => exact ⟨0, Nat.zero_le _, rfl, rfl⟩
  case round =>
    obtain ⟨j, hj, rfl, rfl⟩ := hrel
    have hs := sz_succ (o := (j : Int)) (by omega)
    have hp := sz_pos (j : Int)
    by_cases hlt : j < k
    · have hle := sz_le256 (o := (j : Int) + 1) (by omega) (by omega)
      obtain ⟨s, hse⟩ : ∃ s, s = sz (j : Int) := ⟨_, rfl⟩
      rw [← hse] at hs hp ⊢
      rw [hs] at hle
      have Hs := Lib.hid hs
      clear hs
      go_wp2
      refine ⟨⟨j + 1, by omega, by go_num, ?_⟩, by simp [intOf]; omega⟩
      rw [show ((j + 1 : Nat) : Int) = (j : Int) + 1 by omega, Hs.out, hse]
    · obtain rfl : j = k := by omega
      clear hs hp
      go_wp2
      go_ret
      exact ⟨rfl, rfl⟩
end Go.Proofs.YthiijnanfiddpaaDoor

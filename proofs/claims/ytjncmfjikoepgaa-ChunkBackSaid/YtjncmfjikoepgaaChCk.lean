/-
  Package chunk: Check, Fits, and what they ask: contracts.
-/
import Derived.Test.YtjncmfjikoepgaaChSm
import Derived.Test.YtjncmfjikoepgaaChMem
import Derived.BigQuiet
import Derived.Deep.RegionWith
import Derived.Deep.DeepCutAuto
namespace Go.Proofs.Ytjncmfjikoepgaa
open Go.RowKit

/-- What a call that answers a Bool says. -/
def TellsB (w : World) (b : Bool) (e : Ending) (w' : World) : Prop := e = .returned (.bool b) ∧ Below w.heap.size w w'
set_option maxHeartbeats 400000 in
theorem hasSize_any (n : Int) (v : Value) (w : World) :
    Calls Try.prog 41 #[.agg #[.int .i64 n, v]] w (TellsB w (decide (0 ≤ n ∧ n ≤ 65536))) := by
  have hB : Below w.heap.size w (w.alloc (.cells #[.int .i64 n, v] 24)) := (Below.refl _ _).alloc (Nat.le_refl _) _
  by_cases h0 : 0 ≤ n
  · by_cases h1 : n ≤ 65536
    · have hd : decide (0 ≤ n ∧ n ≤ 65536) = true := decide_eq_true ⟨h0, h1⟩
      rw [hd]
      have d0 : decide (0 ≤ n) = true := decide_eq_true h0
      have d1 : decide (n ≤ 65536) = true := decide_eq_true h1
      go_enter Try.func41, Try.ntmps41
      go_wp2
      go_ret
      exact ⟨rfl, hB⟩
    · have hd : decide (0 ≤ n ∧ n ≤ 65536) = false := decide_eq_false (fun h => h1 h.2)
      rw [hd]
      have d0 : decide (0 ≤ n) = true := decide_eq_true h0
      have d1 : decide (n ≤ 65536) = false := decide_eq_false h1
      go_enter Try.func41, Try.ntmps41
      go_wp2
      go_ret
      exact ⟨rfl, hB⟩
  · have hd : decide (0 ≤ n ∧ n ≤ 65536) = false := decide_eq_false (fun h => h0 h.1)
    rw [hd]
    have d0 : decide (0 ≤ n) = false := decide_eq_false h0
    go_enter Try.func41, Try.ntmps41
    go_wp2
    go_ret
    exact ⟨rfl, hB⟩
set_option maxHeartbeats 1000000 in
theorem hasSums_any (n : Nat) (A : Option Addr) (k c : Nat) (w : World) (hn : n ≤ 65536) :
    Calls Try.prog 42 #[.agg #[.int .i64 (n : Int), .slice A k c]] w (TellsB w (decide (k = cnt n))) := by
  obtain ⟨b, hb⟩ : ∃ b, b = decide (k = cnt n) := ⟨_, rfl⟩
  rw [← hb]
  have hB : Below w.heap.size w (w.alloc (.cells #[.int .i64 (n : Int), .slice A k c] 24)) := (Below.refl _ _).alloc (Nat.le_refl _) _
  have hK := Whole.new w #[.int .i64 (n : Int), .slice A k c] 24
  go_enter Try.func42, Try.ntmps42
  go_upto_region 1 with (fail)
  generalize w.alloc (.cells _ 24) = W at hB hK ⊢
  have c0 := hK.cell 0
  have c1 := hK.cell 1
  simp only [List.getElem?_cons_succ, List.getElem?_cons_zero] at c0 c1
  have d0 : W.drew.cell? ⟨w.heap.size, 0, none⟩ = some (.int .i64 (n : Int)) := c0
  have d1 : W.drew.cell? ⟨w.heap.size, 1, none⟩ = some (.slice A k c) := c1
  have HC := fun V => count_any n V (by omega)
  obtain ⟨m, hm⟩ : ∃ m, m = cnt n := ⟨_, rfl⟩
  rw [← hm] at HC
  have hkm : ((k : Int) == (m : Int)) = b := by
    rw [hb, hm, Bool.eq_iff_iff, beq_iff_eq, decide_eq_true_iff]
    omega
  have HB := Lib.hid hB
  clear hB hK hm hb
  go_region_with (go_at_call 37; refine (HC _).mono ?_; rintro e w' ⟨rfl, rfl⟩)
  all_goals
    go_wp2
    go_ret
    exact ⟨rfl, HB.out.drew⟩
/-- Sums that may be. -/
def SumsM (z : List Int) : Prop := ∀ x ∈ z, 0 ≤ x ∧ x ≤ 4294967295
instance (z : List Int) : Decidable (SumsM z) := by unfold SumsM; infer_instance
theorem sums_take {z : List Int} {j : Nat} {x : Int} (h : SumsM (z.take j)) (hx : z[j]? = some x) (h0 : 0 ≤ x) (h1 : x ≤ 4294967295) : SumsM (z.take (j + 1)) := by
  rw [List.take_add_one, hx]
  intro y hy
  rcases List.mem_append.1 hy with q | q
  · exact h y q
  · simp at q
    subst q
    exact ⟨h0, h1⟩
theorem sums_bad {z : List Int} {j : Nat} {x : Int} (hx : z[j]? = some x) (h : ¬ (0 ≤ x ∧ x ≤ 4294967295)) : ¬ SumsM z := fun hs => h (hs x (List.mem_of_getElem? hx))
set_option maxHeartbeats 1000000 in
theorem sumsOnly_any (n : Value) (A : Option Addr) (k c : Nat) (z : List Int) (w : World) (hr : RdV w A k (ivs z)) (hk : k ≤ 1000000000) :
    Calls Try.prog 43 #[.agg #[n, .slice A k c]] w (TellsB w (decide (SumsM z))) := by
  have hB : Below w.heap.size w (w.alloc (.cells #[n, .slice A k c] 24)) := (Below.refl _ _).alloc (Nat.le_refl _) _
  have hK := Whole.new w #[n, .slice A k c] 24
  have hl : z.length = k := by have := hr.len; rwa [ivs_length] at this
  obtain ⟨b, hb⟩ : ∃ b, b = decide (SumsM z) := ⟨_, rfl⟩
  rw [← hb]
  have HD := Lib.hid hb
  clear hb
  go_enter Try.func43, Try.ntmps43
  go_upto_region 1 with (fail)
  generalize w.alloc (.cells _ 24) = W at hB hK ⊢
  have c1 := hK.cell 1
  simp only [List.getElem?_cons_succ, List.getElem?_cons_zero] at c1
  have HR := Lib.hid (hr.below hB)
  have HB := Lib.hid hB
  have Hl := Lib.hid hl
  clear hB hK hr hl
  go_wp2_with fail
  clear c1
  go_loop [8] (fun i => ∃ j : Nat, j ≤ k ∧ i = .int .i64 (j : Int) ∧ Hid (SumsM (z.take j))) (fun i => k - (intOf i).toNat)
  case atStart => exact ⟨0, by omega, rfl, Lib.hid (fun x h => by simp at h)⟩
  case round =>
    obtain ⟨j, hj, rfl, hS⟩ := hrel
    by_cases hlt : j < k
    · obtain ⟨g, off, u, rfl, _, hu, hc⟩ := HR.out.cell hlt
      obtain ⟨x, hx, rfl⟩ := ivs_get hu
      have Hx := Lib.hid hx
      clear hu hx
      by_cases h0 : x < 0
      · have d0 : decide (x < 0) = true := decide_eq_true h0
        obtain rfl : b = false := HD.out.trans (decide_eq_false (sums_bad Hx.out (by omega)))
        go_wp2
        go_ret
        exact ⟨rfl, HB.out⟩
      · have d0 : decide (x < 0) = false := decide_eq_false h0
        by_cases h1 : 4294967295 < x
        · have d1 : decide (4294967295 < x) = true := decide_eq_true h1
          obtain rfl : b = false := HD.out.trans (decide_eq_false (sums_bad Hx.out (by omega)))
          go_wp2
          go_ret
          exact ⟨rfl, HB.out⟩
        · have d1 : decide (4294967295 < x) = false := decide_eq_false h1
          have HS := Lib.hid (sums_take hS.out Hx.out (by omega) (by omega))
          go_wp2
          refine ⟨⟨j + 1, by omega, by go_num, HS⟩, by simp [intOf]; omega⟩
    · obtain rfl : j = k := by omega
      have hS2 := hS.out
      rw [List.take_of_length_le (by rw [Hl.out]; omega)] at hS2
      obtain rfl : b = true := HD.out.trans (decide_eq_true hS2)
      clear hS2
      go_wp2
      go_ret
      exact ⟨rfl, HB.out⟩
end Go.Proofs.Ytjncmfjikoepgaa

/-
  What Len, Get, Count, Run and Bytes do: contracts, one a function.
-/
import Derived.Test.YthiijnanfiddpaaDoorBitsB
namespace Go.Proofs.YthiijnanfiddpaaDoor
open Go.RowKit

set_option maxHeartbeats 400000 in
theorem len_any (g h : Nat) (l : List Bool) (w : World) (m : MapAt w g h l) :
    Calls Tryd.prog 111 #[.pointer (some ⟨g, 0, none⟩)] w fun e w' => e = .returned (.int .i64 (l.length : Int)) ∧ w = w' := by
  obtain ⟨ws, h1, _, _, _⟩ := m
  have c0 := h1.cell 0
  clear h1
  go_enter Tryd.func111, Tryd.ntmps111
  go_wp2
  go_ret
  exact ⟨rfl, rfl⟩
set_option maxHeartbeats 400000 in
theorem len_nil (w : World) : Calls Tryd.prog 111 #[.pointer none] w fun e w' => e = .returned (.int .i64 0) ∧ w = w' := by
  go_enter Tryd.func111, Tryd.ntmps111
  go_wp2
  go_ret
  exact ⟨rfl, rfl⟩

/-- The bit in a place, or a refusal. -/
def getB (l : List Bool) (a : Int) : Bool := decide (0 ≤ a ∧ a < (l.length : Int)) && isOn l a.toNat
def getE (l : List Bool) (a : Int) : Int := if 0 ≤ a ∧ a < (l.length : Int) then 0 else 30
theorem bit_num {x r : Nat} (hx : x < 18446744073709551616) : (bits .and .u64 ((x : Int) / (2 : Int) ^ r) 1 == 1) = x.testBit r := by
  have e : ((x : Int) / (2 : Int) ^ r) = ((x / 2 ^ r : Nat) : Int) := by simp
  rw [e, show (1 : Int) = ((1 : Nat) : Int) from rfl, bits_and_u64_nat _ _ (Nat.lt_of_le_of_lt (Nat.div_le_self _ _) hx) (by omega), Nat.and_one_is_mod, Nat.testBit_eq_decide_div_mod_eq]
  rcases Nat.mod_two_eq_zero_or_one (x / 2 ^ r) with h | h <;> rw [h] <;> rfl


set_option maxHeartbeats 400000 in
theorem count_any (g h : Nat) (l : List Bool) (w : World) (m : MapAt w g h l) :
    Calls Tryd.prog 29 #[.pointer (some ⟨g, 0, none⟩)] w fun e w' => e = .returned (.int .i64 (countL l : Int)) ∧ w = w' := by
  obtain ⟨ws, h1, h2, hw, hl⟩ := m
  have c1 := h1.cell 1
  obtain ⟨k, hk⟩ : ∃ k, k = ws.length := ⟨_, rfl⟩
  have hall := hw.count_all
  have hk64 : k ≤ 64 := by have := hw.len; omega
  rw [← hk] at c1 hall
  have Hk := Lib.hid hk
  have Hall := Lib.hid hall
  clear h1 hk hall
  go_enter Tryd.func29, Tryd.ntmps29
  go_wp2
  clear c1
  go_loop [3, 13] (fun n i => ∃ j : Nat, j ≤ k ∧ i = .int .i64 j ∧ n = .int .i64 (cnt (isOn l) (64 * j) : Nat)) (fun _ i => k - (intOf i).toNat)
  case atStart => exact ⟨0, Nat.zero_le _, rfl, rfl⟩
  case round =>
    obtain ⟨j, hj, rfl, rfl⟩ := hrel
    by_cases hlt : j < k
    · have hjl : j < ws.length := by rw [← Hk.out]; exact hlt
      have hx := List.getElem?_eq_getElem hjl
      obtain ⟨x, hxe⟩ : ∃ x, x = ws[j] := ⟨_, rfl⟩
      rw [← hxe] at hx
      have cx := h2.cell j
      rw [wvs_get hx] at cx
      have hxl := hw.lt _ _ hx
      have hs := Lib.hid (hw.count_step hx)
      have hle := cnt_le (isOn l) (64 * j)
      have hol := ones_le x
      clear hx hxe
      go_wp2_with (go_at_call 51; refine (ones_any x hxl w).mono ?_; rintro e w1 ⟨rfl, rfl⟩)
      refine ⟨⟨j + 1, by omega, by go_num, ?_⟩, by simp [intOf]; omega⟩
      rw [hs.out]
      go_num
    · obtain rfl : j = k := by omega
      rw [Hall.out]
      go_wp2
      go_ret
      exact ⟨rfl, rfl⟩
set_option maxHeartbeats 400000 in
theorem count_nil (w : World) : Calls Tryd.prog 29 #[.pointer none] w fun e w' => e = .returned (.int .i64 0) ∧ w = w' := by
  go_enter Tryd.func29, Tryd.ntmps29
  go_wp2
  go_ret
  exact ⟨rfl, rfl⟩
end Go.Proofs.YthiijnanfiddpaaDoor

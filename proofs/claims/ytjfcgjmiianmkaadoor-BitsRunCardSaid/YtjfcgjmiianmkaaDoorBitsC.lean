/-
  What Len, Get, Count, Run and Bytes do: contracts, one a function.
-/
import Derived.Test.YtjfcgjmiianmkaaDoorBitsB
namespace Go.Proofs.YtjfcgjmiianmkaaDoor
open Go.RowKit

set_option maxHeartbeats 400000 in
theorem len_any (g h : Nat) (l : List Bool) (w : World) (m : MapAt w g h l) :
    Calls Tryd.prog 19 #[.pointer (some ⟨g, 0, none⟩)] w fun e w' => e = .returned (.int .i64 (l.length : Int)) ∧ w = w' := by
  obtain ⟨ws, h1, _, _, _⟩ := m
  have c0 := h1.cell 0
  clear h1
  go_enter Tryd.func19, Tryd.ntmps19
  go_wp2
  go_ret
  exact ⟨rfl, rfl⟩
set_option maxHeartbeats 400000 in
theorem len_nil (w : World) : Calls Tryd.prog 19 #[.pointer none] w fun e w' => e = .returned (.int .i64 0) ∧ w = w' := by
  go_enter Tryd.func19, Tryd.ntmps19
  go_wp2
  go_ret
  exact ⟨rfl, rfl⟩

/-- The bit in a place, or a refusal. -/
def getB (l : List Bool) (a : Int) : Bool := decide (0 ≤ a ∧ a < (l.length : Int)) && isOn l a.toNat
def getE (l : List Bool) (a : Int) : Int := if 0 ≤ a ∧ a < (l.length : Int) then 0 else 30
theorem bit_num {x r : Nat} (hx : x < 18446744073709551616) : (bits .and .u64 ((x : Int) / (2 : Int) ^ r) 1 == 1) = x.testBit r := by
  have e : ((x : Int) / (2 : Int) ^ r) = ((x / 2 ^ r : Nat) : Int) := by simp
  rw [e, show (1 : Int) = ((1 : Nat) : Int) from rfl, bits_and_u64_nat _ _ (Nat.lt_of_le_of_lt (Nat.div_le_self _ _) hx) (by omega), Nat.and_one_is_mod, Nat.testBit_eq_decide_div_mod_eq]
  rcases Nat.mod_two_eq_zero_or_one (x / 2 ^ r) with h | h <;> rw [h] <;> rfl

set_option maxHeartbeats 400000 in
theorem get_any (g h : Nat) (l : List Bool) (a : Int) (w : World) (m : MapAt w g h l) :
    Calls Tryd.prog 15 #[.pointer (some ⟨g, 0, none⟩), .int .i64 a] w fun e w' => e = .returned (.tuple #[.bool (getB l a), .int .i64 (getE l a)]) ∧ w = w' := by
  obtain ⟨ws, h1, h2, hw, hl⟩ := m
  have c0 := h1.cell 0
  have c1 := h1.cell 1
  by_cases hi : 0 ≤ a ∧ a < (l.length : Int)
  · obtain ⟨i, rfl⟩ := Int.eq_ofNat_of_zero_le hi.1
    have hil : i < l.length := by omega
    obtain ⟨x, hx, hlt, hb⟩ := hw.get hil
    have cx := h2.cell (i / 64)
    rw [wvs_get hx] at cx
    have hq : i / 64 < ws.length := (List.getElem?_eq_some_iff.1 hx).1
    obtain ⟨q, hqe⟩ : ∃ q, q = i / 64 := ⟨_, rfl⟩
    obtain ⟨r, hre⟩ : ∃ r, r = i % 64 := ⟨_, rfl⟩
    have e1 : (i : Int) / 64 = (q : Int) := by omega
    have e2 : (i : Int) % 64 = (r : Int) := by omega
    have e3 : min r 64 = r := by omega
    have e4 : (bits .and .u64 ((x : Int) / (2 : Int) ^ r) 1 == 1) = isOn l i := by
      rw [bit_num hlt, hb r (by omega)]
      congr 1
      omega
    have e5 : getB l (i : Int) = isOn l i := by
      unfold getB
      rw [decide_eq_true (by omega), Int.toNat_natCast, Bool.true_and]
    have e6 : getE l (i : Int) = 0 := by unfold getE; rw [if_pos (by omega)]
    rw [e5, e6]
    rw [← hqe] at cx hq
    obtain ⟨k, hk⟩ : ∃ k, k = ws.length := ⟨_, rfl⟩
    rw [← hk] at c1 hq
    have h0 : decide ((i : Int) < 0) = false := by simp
    have h3 : decide ((l.length : Int) ≤ (i : Int)) = false := by simp; omega
    clear h1 h2 hx hb hqe hre hi hk e5 e6
    go_enter Tryd.func15, Tryd.ntmps15
    go_wp2
    go_ret2
    exact ⟨rfl, rfl⟩
  · have e5 : getB l a = false := by
      unfold getB
      rw [decide_eq_false hi, Bool.false_and]
    have e6 : getE l a = 30 := by unfold getE; rw [if_neg hi]
    rw [e5, e6]
    clear h1 h2 e5 e6 c1
    by_cases h0 : a < 0
    · go_enter Tryd.func15, Tryd.ntmps15
      go_wp2
      go_ret2
      exact ⟨rfl, rfl⟩
    · have h3 : decide ((l.length : Int) ≤ a) = true := by simp; omega
      have h4 : decide (a < 0) = false := by simp; omega
      go_enter Tryd.func15, Tryd.ntmps15
      go_wp2
      go_ret2
      exact ⟨rfl, rfl⟩
set_option maxHeartbeats 400000 in
theorem get_nil (a : Int) (w : World) : Calls Tryd.prog 15 #[.pointer none, .int .i64 a] w fun e w' => e = .returned (.tuple #[.bool false, .int .i64 3]) ∧ w = w' := by
  go_enter Tryd.func15, Tryd.ntmps15
  go_wp2
  go_ret2
  exact ⟨rfl, rfl⟩

set_option maxHeartbeats 400000 in
theorem count_any (g h : Nat) (l : List Bool) (w : World) (m : MapAt w g h l) :
    Calls Tryd.prog 20 #[.pointer (some ⟨g, 0, none⟩)] w fun e w' => e = .returned (.int .i64 (countL l : Int)) ∧ w = w' := by
  obtain ⟨ws, h1, h2, hw, hl⟩ := m
  have c1 := h1.cell 1
  obtain ⟨k, hk⟩ : ∃ k, k = ws.length := ⟨_, rfl⟩
  have hall := hw.count_all
  have hk64 : k ≤ 64 := by have := hw.len; omega
  rw [← hk] at c1 hall
  have Hk := Lib.hid hk
  have Hall := Lib.hid hall
  clear h1 hk hall
  go_enter Tryd.func20, Tryd.ntmps20
  go_wp2
  clear c1
  go_loop [3, 13] (fun n i => ∃ j : Nat, j ≤ k ∧ i = .int .i64 j ∧ n = .int .i64 (cnt (isOn l) (64 * j) : Nat)) (fun _ i => k - (intOf i).toNat)
  case atStart => exact ⟨0, Nat.zero_le _, rfl, rfl⟩
  case round =>
    obtain ⟨j, hj, rfl, rfl⟩ := hrel
    by_cases hlt : j < k
    · have hjl : j < ws.length := by rw [← Hk.out]; exact hlt
      have hx := List.getElem?_eq_getElem hjl
      obtain ⟨x, hxe⟩ : ∃ x, x = ws[j] := ⟨_, rfl⟩
      rw [← hxe] at hx
      have cx := h2.cell j
      rw [wvs_get hx] at cx
      have hxl := hw.lt _ _ hx
      have hs := Lib.hid (hw.count_step hx)
      have hle := cnt_le (isOn l) (64 * j)
      have hol := ones_le x
      clear hx hxe
      go_wp2_with (go_at_call 32; refine (ones_any x hxl w).mono ?_; rintro e w1 ⟨rfl, rfl⟩)
      refine ⟨⟨j + 1, by omega, by go_num, ?_⟩, by simp [intOf]; omega⟩
      rw [hs.out]
      go_num
    · obtain rfl : j = k := by omega
      rw [Hall.out]
      go_wp2
      go_ret
      exact ⟨rfl, rfl⟩
set_option maxHeartbeats 400000 in
theorem count_nil (w : World) : Calls Tryd.prog 20 #[.pointer none] w fun e w' => e = .returned (.int .i64 0) ∧ w = w' := by
  go_enter Tryd.func20, Tryd.ntmps20
  go_wp2
  go_ret
  exact ⟨rfl, rfl⟩
end Go.Proofs.YtjfcgjmiianmkaaDoor

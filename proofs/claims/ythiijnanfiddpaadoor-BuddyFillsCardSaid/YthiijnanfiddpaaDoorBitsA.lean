/-
  What the library's two functions of bits and package bits' small ones do: contracts, one a function.
-/
import Derived.Test.YthiijnanfiddpaaDoorBitsMath
import Derived.Test.YthiijnanfiddpaaDoorBase
import Derived.Lib.LaidTab
namespace Go.Proofs.YthiijnanfiddpaaDoor
open Go.RowKit

theorem wrap64u (n : Nat) (h : n < 18446744073709551616) : IntKind.u64.wrap (n : Int) = (n : Int) := by rw [IntKind.wrap_u64]; omega
theorem and64 (a b : Nat) (ha : a < 18446744073709551616) (hb : b < 18446744073709551616) : bits .and .u64 (a : Int) (b : Int) = ((a &&& b : Nat) : Int) := bits_and_u64_nat a b ha hb

theorem i64_and_nat (a b : Nat) (ha : a < 9223372036854775808) (hb : b < 9223372036854775808) : bits .and .i64 (a : Int) (b : Int) = ((a &&& b : Nat) : Int) := by
  have e : ∀ v : Nat, v < 9223372036854775808 → (BitVec.ofInt 64 (v : Int)).toNat = v := fun v hv => by
    rw [BitVec.ofInt_natCast, BitVec.toNat_ofNat]; exact Nat.mod_eq_of_lt (by omega)
  have h := Nat.and_lt_two_pow (n := 63) a (show b < 2 ^ 63 by omega)
  show IntKind.i64.wrap ((BitVec.ofInt 64 (a : Int) &&& BitVec.ofInt 64 (b : Int)).toNat : Int) = _
  rw [BitVec.toNat_and, e a ha, e b hb, IntKind.wrap_i64]
  omega

set_option maxHeartbeats 400000 in
theorem ones_any (x : Nat) (hx : x < 18446744073709551616) (w : World) :
    Calls Tryd.prog 51 #[.int .u64 (x : Int)] w fun e w' => e = .returned (.int .i64 ((ones x : Nat) : Int)) ∧ w = w' := by
  obtain ⟨x1, x2, x3, x4, x5, s1, l1, s2, l2, l3, s3, s4, l4, s5, l5, l6, s6⟩ := ones_steps x hx
  have e1 : IntKind.u64.wrap (bits .and .u64 ((x : Int) / 2) 6148914691236517205 + bits .and .u64 (x : Int) 6148914691236517205) = (x1 : Int) := by
    rw [show ((x : Int) / 2) = ((x / 2 : Nat) : Int) from by omega, show (6148914691236517205 : Int) = ((6148914691236517205 : Nat) : Int) from rfl, and64 _ _ (by omega) (by omega), and64 _ _ hx (by omega), ← Int.natCast_add, s1, wrap64u _ l1]
  have e2 : IntKind.u64.wrap (bits .and .u64 ((x1 : Int) / 4) 3689348814741910323 + bits .and .u64 (x1 : Int) 3689348814741910323) = (x2 : Int) := by
    rw [show ((x1 : Int) / 4) = ((x1 / 4 : Nat) : Int) from by omega, show (3689348814741910323 : Int) = ((3689348814741910323 : Nat) : Int) from rfl, and64 _ _ (by omega) (by omega), and64 _ _ l1 (by omega), ← Int.natCast_add, s2, wrap64u _ l2]
  have e3 : bits .and .u64 (IntKind.u64.wrap ((x2 : Int) / 16 + (x2 : Int))) 1085102592571150095 = (x3 : Int) := by
    rw [show ((x2 : Int) / 16 + (x2 : Int)) = ((x2 / 16 + x2 : Nat) : Int) from by omega, wrap64u _ l3, show (1085102592571150095 : Int) = ((1085102592571150095 : Nat) : Int) from rfl, and64 _ _ l3 (by omega), s3]
  have e4 : IntKind.u64.wrap ((x3 : Int) + (x3 : Int) / 256) = (x4 : Int) := by rw [show ((x3 : Int) + (x3 : Int) / 256) = ((x3 + x3 / 256 : Nat) : Int) from by omega, s4, wrap64u _ l4]
  have e5 : IntKind.u64.wrap ((x4 : Int) + (x4 : Int) / 65536) = (x5 : Int) := by rw [show ((x4 : Int) + (x4 : Int) / 65536) = ((x4 + x4 / 65536 : Nat) : Int) from by omega, s5, wrap64u _ l5]
  have e6 : bits .and .i64 (wrap64 (IntKind.u64.wrap ((x5 : Int) + (x5 : Int) / 4294967296))) 127 = ((ones x : Nat) : Int) := by
    rw [show ((x5 : Int) + (x5 : Int) / 4294967296) = ((x5 + x5 / 4294967296 : Nat) : Int) from by omega, wrap64u _ (by omega), show wrap64 ((x5 + x5 / 4294967296 : Nat) : Int) = ((x5 + x5 / 4294967296 : Nat) : Int) from by unfold wrap64; omega]
    rw [show (127 : Int) = ((127 : Nat) : Int) from rfl, i64_and_nat _ _ l6 (by omega), s6]
  clear s1 l1 s2 l2 l3 s3 s4 l4 s5 l5 l6 s6
  have E1 := Lib.hid e1
  have E2 := Lib.hid e2
  have E3 := Lib.hid e3
  have E4 := Lib.hid e4
  have E5 := Lib.hid e5
  have E6 := Lib.hid e6
  clear e1 e2 e3 e4 e5 e6
  go_enter Tryd.func51, Tryd.ntmps51
  go_wp2
  rw [E1.out, E2.out, E3.out, E4.out, E5.out, E6.out]
  go_ret
  exact ⟨rfl, rfl⟩

/-- The library's table, as it is laid. -/
def Tab (w : World) : Prop := ∀ i, i < 64 → w.cell? ⟨0, i, none⟩ = some (.int .u8 (Lib.deBruijn64tab.getD i 0))

theorem tz_key (x a : Nat) (hx : x < 18446744073709551616) (hx0 : x ≠ 0) (hlow : x &&& (18446744073709551616 - x) = a) :
    IntKind.u64.wrap (bits BinOp.and IntKind.u64 (x : Int) (IntKind.u64.wrap (-(x : Int))) * 285870213051353865) / 288230376151711744 = ((a * 285870213051353865 % 18446744073709551616 / 288230376151711744 : Nat) : Int) := by
  have e1 : IntKind.u64.wrap (-(x : Int)) = ((18446744073709551616 - x : Nat) : Int) := by rw [IntKind.wrap_u64]; omega
  rw [e1, bits_and_u64_nat x _ hx (by omega), hlow, IntKind.wrap_u64]
  omega

set_option maxHeartbeats 400000 in
theorem tz_core (x k idx : Nat) (w : World) (hx0 : ((x : Int) == 0) = false)
    (key : IntKind.u64.wrap (bits BinOp.and IntKind.u64 (x : Int) (IntKind.u64.wrap (-(x : Int))) * 285870213051353865) / 288230376151711744 = (idx : Int))
    (hi : idx < 64) (hk : k < 64) (hcell : w.cell? ⟨0, idx, none⟩ = some (.int .u8 k)) :
    Calls Tryd.prog 67 #[.int .u64 (x : Int)] w fun e w' => e = .returned (.int .i64 (k : Int)) ∧ w = w' := by
  go_enter Tryd.func67, Tryd.ntmps67
  go_wp2_with (simp only [key])
  go_ret
  exact ⟨rfl, rfl⟩

theorem tz_any (x : Nat) (hx : x < 18446744073709551616) (h0 : x ≠ 0) (w : World) (hT : Tab w) :
    Calls Tryd.prog 67 #[.int .u64 (x : Int)] w fun e w' => e = .returned (.int .i64 (Lib.ctz 64 x : Nat)) ∧ w = w' := by
  obtain ⟨hlow, hk⟩ := Lib.lowest_bit 64 x h0 hx
  obtain ⟨hi, htab⟩ := Lib.deBruijn64_at _ hk
  have hcell := hT _ hi
  rw [htab] at hcell
  exact tz_core x _ _ w (by simp; omega) (tz_key x _ hx h0 hlow) hi hk hcell

set_option maxHeartbeats 400000 in
theorem units_any (n k : Nat) (hn : n ≤ 9000) (hk : 1 ≤ k) (hk2 : k ≤ 64) (w : World) :
    Calls Tryd.prog 49 #[.int .i64 (n : Int), .int .i64 (k : Int)] w fun e w' => e = .returned (.int .i64 (((n + k - 1) / k : Nat) : Int)) ∧ w = w' := by
  have e : ((n : Int) + (k : Int) - 1) / (k : Int) = (((n + k - 1) / k : Nat) : Int) := by
    rw [show (n : Int) + (k : Int) - 1 = ((n + k - 1 : Nat) : Int) from by omega, Int.natCast_ediv]
  have E := Lib.hid e
  clear e
  go_enter Tryd.func49, Tryd.ntmps49
  go_wp2
  go_ret
  rw [← E.out]
  exact ⟨rfl, rfl⟩
end Go.Proofs.YthiijnanfiddpaaDoor

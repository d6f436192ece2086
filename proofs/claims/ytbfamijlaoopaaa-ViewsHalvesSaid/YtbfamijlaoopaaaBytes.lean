/-
  Plain mathematics: a number's bytes, the highest first; no program, no condition.
-/
import Derived.Test.YtbfamijlaoopaaaMem
import Derived.Laws.Bits64
namespace Go.Proofs.Ytbfamijlaoopaaa
open Go.RowKit

/-- The lowest s bytes of u, the highest first. -/
def be (s u : Nat) : List UInt8 := (List.range s).map fun i => UInt8.ofNat (u / 256 ^ (s - 1 - i))
theorem be_length (s u : Nat) : (be s u).length = s := by simp [be]
theorem be_get {s u i : Nat} (h : i < s) : (be s u)[i]? = some (UInt8.ofNat (u / 256 ^ (s - 1 - i))) := by simp [be, h]
theorem be_take_succ {s u i : Nat} (h : i < s) : (be s u).take (i + 1) = (be s u).take i ++ [UInt8.ofNat (u / 256 ^ (s - 1 - i))] := by
  rw [List.take_add_one, be_get h]; rfl
theorem be_take_all (s u : Nat) : (be s u).take s = be s u := List.take_of_length_le (by rw [be_length]; omega)
theorem be4 (u : Nat) : be 4 u = [UInt8.ofNat (u / 16777216), UInt8.ofNat (u / 65536), UInt8.ofNat (u / 256), UInt8.ofNat u] := by
  simp [be, List.range_succ]
theorem be8 (u : Nat) : be 8 u = [UInt8.ofNat (u / 72057594037927936), UInt8.ofNat (u / 281474976710656), UInt8.ofNat (u / 1099511627776), UInt8.ofNat (u / 4294967296), UInt8.ofNat (u / 16777216), UInt8.ofNat (u / 65536), UInt8.ofNat (u / 256), UInt8.ofNat u] := by
  simp [be, List.range_succ]
theorem bv_ofNat (x : Nat) : bv (UInt8.ofNat x) = .int .u8 ((x : Int) % 256) := by simp [bv]
/-- An int as the unsigned number of its 64 bits. -/
def u64n (m : Int) : Nat := (m % 18446744073709551616).toNat
theorem wrap_u64n (m : Int) : IntKind.u64.wrap m = (u64n m : Int) := by
  rw [IntKind.wrap_u64]; unfold u64n; omega
theorem u64n_lt (m : Int) : u64n m < 18446744073709551616 := by unfold u64n; omega
theorem i64_u64n (m : Int) (h0 : -9223372036854775808 ≤ m) (h1 : m ≤ 9223372036854775807) : wrap64 (u64n m : Int) = m := by
  unfold wrap64 u64n; omega
end Go.Proofs.Ytbfamijlaoopaaa

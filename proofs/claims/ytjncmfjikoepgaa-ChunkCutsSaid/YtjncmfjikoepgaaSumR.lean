/-
  What the document's own answers for layer 2, and the statements' own helpers (lent bytes, kept bytes), do: contracts, one a function.
-/
import Derived.Test.YtjncmfjikoepgaaSumC
namespace Go.Proofs.Ytjncmfjikoepgaa
open Go.RowKit

theorem xorByte_num (v : BitVec 32) (x : UInt8) : bits .xor .u32 (v.toNat : Int) ((x.toNat : Int) % 4294967296) = ((v ^^^ bw x).toNat : Int) := by
  have h1 := v.isLt
  have h2 := x.toNat_lt
  rw [show (x.toNat : Int) % 4294967296 = (x.toNat : Int) from by omega, u32_xor_nat _ _ h1 (by omega), BitVec.toNat_xor, bw_toNat]
theorem turn_num {v : BitVec 32} (h : v.toNat % 2 = 1) : bits .xor .u32 ((v.toNat : Int) / 2) 3988292384 = ((stp v).toNat : Int) := by
  have h1 := v.isLt
  rw [u32_xor _ _ (by omega) (by omega) (by omega) (by omega), stp_one h]
  congr 2

set_option maxHeartbeats 1000000 in
theorem refWord_any (v : BitVec 32) (A : Option Addr) (n c : Nat) (l : List UInt8) (w : World) (hb : Rd w A n l) (hn : n ≤ 70368744177664) :
    Calls Try.prog 39 #[.int .u32 (v.toNat : Int), .slice A n c] w fun e w' => e = .returned (.int .u32 ((wrd v l).toNat : Int)) ∧ w = w' := by
  have Hl := Lib.hid hb.len
  go_enter Try.func39, Try.ntmps39
  go_wp2_with fail
  go_loop [0, 5] (fun x i => ∃ k : Nat, k ≤ n ∧ i = .int .i64 k ∧ x = .int .u32 ((wrd v (l.take k)).toNat : Int)) (fun _ i => n - (intOf i).toNat)
  case atStart => exact ⟨0, by omega, rfl, rfl⟩
  case round =>
    obtain ⟨k, hk, rfl, rfl⟩ := hrel
    by_cases hlt : k < n
    · obtain ⟨b, off, x, rfl, _, hx, hc⟩ := hb.cell hlt
      have Hs := Lib.hid (wrd_take_succ v l hx)
      have Hx := Lib.hid (xorByte_num (wrd v (l.take k)) x)
      clear hx
      obtain ⟨u, hu⟩ : ∃ u, u = wrd v (l.take k) := ⟨_, rfl⟩
      rw [← hu] at Hs Hx ⊢
      clear hu
      go_wp2_with fail
      rw [Hx.out]
      clear hc Hx
      go_loop [0, 6] (fun x2 i => ∃ j : Nat, j ≤ 8 ∧ i = .int .i64 j ∧ x2 = .int .u32 ((stps j (u ^^^ bw x)).toNat : Int)) (fun _ i => 8 - (intOf i).toNat)
      case atStart => exact ⟨0, by omega, rfl, rfl⟩
      case round =>
        obtain ⟨j, hj, rfl, rfl⟩ := hrel
        by_cases hjt : j < 8
        · have Hj : Hid (stps (j + 1) (u ^^^ bw x) = stp (stps j (u ^^^ bw x))) := Lib.hid rfl
          obtain ⟨y, hy⟩ : ∃ y, y = stps j (u ^^^ bw x) := ⟨_, rfl⟩
          rw [← hy] at Hj ⊢
          clear hy
          rcases Nat.mod_two_eq_zero_or_one y.toNat with h2 | h2
          · have hm : (y.toNat : Int) % 2 = 0 := by omega
            have Hq := Lib.hid (stp_none h2)
            clear h2
            go_wp2
            refine ⟨⟨j + 1, by omega, by go_num, by rw [Hj.out, Hq.out]; rfl⟩, by simp [intOf]; omega⟩
          · have hm : (y.toNat : Int) % 2 = 1 := by omega
            have Hq := Lib.hid (turn_num h2)
            clear h2
            go_wp2
            refine ⟨⟨j + 1, by omega, by go_num, by rw [Hj.out, Hq.out]⟩, by simp [intOf]; omega⟩
        · obtain rfl : j = 8 := by omega
          go_wp2
          refine ⟨⟨k + 1, by omega, by go_num, by rw [Hs.out]; rfl⟩, by simp [intOf]; omega⟩
    · obtain rfl : k = n := by omega
      have hs : l.take k = l := List.take_of_length_le (by rw [Hl.out]; omega)
      rw [hs]
      go_wp2
      go_ret
      exact ⟨rfl, rfl⟩
end Go.Proofs.Ytjncmfjikoepgaa

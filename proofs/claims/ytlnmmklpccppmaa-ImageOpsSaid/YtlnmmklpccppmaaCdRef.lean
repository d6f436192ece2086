/-
  What the document's own answers for layer 1, and the statements' own helpers (lent bytes, kept bytes), do: contracts, one a function.
-/
import Derived.Test.YtlnmmklpccppmaaCdPut
namespace Go.Proofs.Ytlnmmklpccppmaa
open Go.RowKit

/-- The relation of Eight's loop, which goes down. -/
def EightRel (u : Nat) (w : World) (v i : Value) (wr : World) : Prop :=
  ∃ k : Nat, k ≤ 8 ∧ i = .int .i64 (7 - (k : Int)) ∧ Own 5 wr w.heap.size v ((be 8 u).take k) ∧ Below w.heap.size w wr

set_option maxRecDepth 20000 in
set_option maxHeartbeats 1000000 in
theorem eight_any (m : Int) (w : World) : Calls Try.prog 11 #[.int .i64 m] w (Gives w (be 8 (u64n m))) := by
  have hwr := wrap_u64n m
  obtain ⟨u, hu⟩ : ∃ u, u = u64n m := ⟨_, rfl⟩
  rw [← hu] at hwr ⊢
  clear hu
  go_enter Try.func11, Try.ntmps11
  go_wp2_with fail
  clear hwr
  go_loopw [4, 5] (EightRel u w) (fun _ i _ => (intOf i + 1).toNat)
  case atStart => exact ⟨0, by omega, rfl, Own.nil, Below.refl _ _⟩
  case round =>
    obtain ⟨k, hk, rfl, hown, hbw⟩ := hrel
    by_cases hlt : k < 8
    · have hsz := hbw.size
      have hl2 : ((be 8 u).take k).length ≤ 8 := by rw [List.length_take, be_length]; omega
      have h0 : decide (0 ≤ 7 - (k : Int)) = true := by simp; omega
      obtain ⟨v2, w2, hap, hown2, hb2⟩ := run_app_one (P := Try.prog) w.heap.size 25 25 5 Try.underlying25 Try.infoU8 _ _ hown (.int .u8 ((u : Int) / 2 ^ (8 * (7 - k)) % 256)) (UInt8.ofNat (u / 256 ^ (8 - 1 - k)))
        (by rw [bv_ofNat, Int.natCast_ediv, Int.natCast_pow, show (2 : Int) ^ (8 * (7 - k)) = ((256 : Nat) : Int) ^ (8 - 1 - k) from by rw [Int.pow_mul]; rfl]) (by omega) hsz
      rw [← be_take_succ hlt] at hown2
      clear hl2
      go_wp2_with (at_builtin; refine wpList_append_run hap rfl _ _ rfl rfl rfl rfl ?_)
      go_roundw
      case rel => exact ⟨k + 1, by omega, by rw [show (7 : Int) - ((k + 1 : Nat) : Int) = 7 - (k : Int) - 1 from by omega], hown2, hbw.trans hb2⟩
      case measure => simp [intOf]; omega
    · obtain rfl : k = 8 := by omega
      rw [be_take_all] at hown
      clear hlt
      go_wp2
      go_ret
      exact ⟨_, rfl, hown, hbw⟩

end Go.Proofs.Ytlnmmklpccppmaa

/-
  What the calls that lay numbers, ints and texts as bytes do, and what the document's own answers are: contracts, one a function.
-/
import Derived.Test.YtlnmmklpccppmaaBase
import Derived.Test.YtlnmmklpccppmaaVals
namespace Go.Proofs.Ytlnmmklpccppmaa
open Go.RowKit

/-- Refused: no bytes, and nothing has turned. -/
def RefusedS (w : World) (er : Int) (e : Ending) (w' : World) : Prop := e = .returned (.tuple #[.slice none 0 0, .int .i64 er]) ∧ w = w'

/-- The relation of putBits's loop: the first k bytes are laid. -/
def PutRel (b : List UInt8) (s u : Nat) (w : World) (v i : Value) (wr : World) : Prop :=
  ∃ k : Nat, k ≤ s ∧ i = .int .i64 k ∧ Own 5 wr w.heap.size v (b ++ (be s u).take k) ∧ Below w.heap.size w wr

set_option maxHeartbeats 400000 in
theorem putBits_any (A : Option Addr) (n c : Nat) (b : List UInt8) (u : Nat) (s : Nat) (w : World) (hb : Rd w A n b) (hn : n ≤ 70368744177664) (hs : s ≤ 8) :
    Calls Try.prog 21 #[.slice A n c, .int .u64 u, .int .i64 s] w (Gives w (b ++ be s u)) := by
  have hmk := run_make_bytes (P := Try.prog) Try.underlying25 Try.infoU8 n (n + s) (by omega) (by omega)
  rw [Int.natCast_add] at hmk
  obtain ⟨w1, hcp, hown1, hb1⟩ := run_copy_new (P := Try.prog) 25 25 3 5 Try.underlying25 Try.infoU8 A n c (n + s) b hb (by omega) (by simp only [maxLen]; omega)
  have hl := hb.len
  go_enter Try.func21, Try.ntmps21
  go_wp2_with fail
  clear hmk hcp
  go_loopw [7, 20] (PutRel b s u w) (fun _ i _ => s - (intOf i).toNat)
  case atStart => exact ⟨0, Nat.zero_le _, rfl, by simpa using hown1, hb1⟩
  case round =>
    obtain ⟨k, hk, rfl, hown, hbw⟩ := hrel
    by_cases hlt : k < s
    · have hsz := hbw.size
      have hl2 : (b ++ (be s u).take k).length ≤ n + s := by rw [List.length_append, hl, List.length_take, be_length]; omega
      obtain ⟨v2, w2, hap, hown2, hb2⟩ := run_app_one (P := Try.prog) w.heap.size 25 25 5 Try.underlying25 Try.infoU8 _ _ hown (.int .u8 ((u : Int) / 2 ^ (8 * (s - 1 - k)) % 256)) (UInt8.ofNat (u / 256 ^ (s - 1 - k)))
        (by rw [bv_ofNat, Int.natCast_ediv, Int.natCast_pow, show (2 : Int) ^ (8 * (s - 1 - k)) = ((256 : Nat) : Int) ^ (s - 1 - k) from by rw [Int.pow_mul]; rfl]) (by omega) hsz
      have hk2 : (b ++ (be s u).take k) ++ [UInt8.ofNat (u / 256 ^ (s - 1 - k))] = b ++ (be s u).take (k + 1) := by rw [be_take_succ hlt, List.append_assoc]
      rw [hk2] at hown2
      clear hk2 hl2 hl hown1 hb1
      go_wp2_with (at_builtin; refine wpList_append_run hap rfl _ _ rfl rfl rfl rfl ?_)
      go_roundw
      case rel => exact ⟨k + 1, by omega, by go_num, hown2, hbw.trans hb2⟩
      case measure => simp [intOf]; omega
    · obtain rfl : k = s := by omega
      rw [be_take_all] at hown
      clear hlt hown1 hb1
      go_wp2
      go_ret
      exact ⟨_, rfl, hown, hbw⟩

set_option maxHeartbeats 400000 in
theorem putInt_any (A : Option Addr) (n c : Nat) (b : List UInt8) (m : Int) (w : World) (hb : Rd w A n b) (hn : n ≤ 70368744177664) :
    Calls Try.prog 18 #[.slice A n c, .int .i64 m] w (Gives w (b ++ be 8 (u64n m))) := by
  go_enter Try.func18, Try.ntmps18
  go_wp2_with fail
  rw [wrap_u64n]
  refine (putBits_any A n c b (u64n m) 8 w hb hn (by omega)).mono ?_
  rintro e w1 ⟨v, rfl, hown, hbw⟩
  go_wp2
  go_ret
  exact ⟨v, rfl, hown, hbw⟩

end Go.Proofs.Ytlnmmklpccppmaa

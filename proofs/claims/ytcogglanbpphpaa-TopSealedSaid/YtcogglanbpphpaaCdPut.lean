/-
  What the calls that lay numbers, ints and texts as bytes do, and what the document's own answers are: contracts, one a function.
-/
import Derived.Test.YtcogglanbpphpaaBase
import Derived.Test.YtcogglanbpphpaaVals
namespace Go.Proofs.Ytcogglanbpphpaa
open Go.RowKit

/-- Refused: no bytes, and nothing has turned. -/
def RefusedS (w : World) (er : Int) (e : Ending) (w' : World) : Prop := e = .returned (.tuple #[.slice none 0 0, .int .i64 er]) ∧ w = w'

/-- The relation of putBits's loop: the first k bytes are laid. -/
def PutRel (b : List UInt8) (s u : Nat) (w : World) (v i : Value) (wr : World) : Prop :=
  ∃ k : Nat, k ≤ s ∧ i = .int .i64 k ∧ Own 5 wr w.heap.size v (b ++ (be s u).take k) ∧ Below w.heap.size w wr

set_option maxHeartbeats 400000 in
theorem putBits_any (A : Option Addr) (n c : Nat) (b : List UInt8) (u : Nat) (s : Nat) (w : World) (hb : Rd w A n b) (hn : n ≤ 70368744177664) (hs : s ≤ 8) :
    Calls Try.prog 72 #[.slice A n c, .int .u64 u, .int .i64 s] w (Gives w (b ++ be s u)) := by
  have hmk := run_make_bytes (P := Try.prog) Try.underlying32 Try.infoU8 n (n + s) (by omega) (by omega)
  rw [Int.natCast_add] at hmk
  obtain ⟨w1, hcp, hown1, hb1⟩ := run_copy_new (P := Try.prog) 32 32 3 5 Try.underlying32 Try.infoU8 A n c (n + s) b hb (by omega) (by simp only [maxLen]; omega)
  have hl := hb.len
  go_enter Try.func72, Try.ntmps72
  go_wp2_with fail
  clear hmk hcp
  go_loopw [7, 20] (PutRel b s u w) (fun _ i _ => s - (intOf i).toNat)
  case atStart => exact ⟨0, Nat.zero_le _, rfl, by simpa using hown1, hb1⟩
  case round =>
    obtain ⟨k, hk, rfl, hown, hbw⟩ := hrel
    by_cases hlt : k < s
    · have hsz := hbw.size
      have hl2 : (b ++ (be s u).take k).length ≤ n + s := by rw [List.length_append, hl, List.length_take, be_length]; omega
      obtain ⟨v2, w2, hap, hown2, hb2⟩ := run_app_one (P := Try.prog) w.heap.size 32 32 5 Try.underlying32 Try.infoU8 _ _ hown (.int .u8 ((u : Int) / 2 ^ (8 * (s - 1 - k)) % 256)) (UInt8.ofNat (u / 256 ^ (s - 1 - k)))
        (by rw [bv_ofNat, Int.natCast_ediv, Int.natCast_pow, show (2 : Int) ^ (8 * (s - 1 - k)) = ((256 : Nat) : Int) ^ (s - 1 - k) from by rw [Int.pow_mul]; rfl]) (by omega) hsz
      have hk2 : (b ++ (be s u).take k) ++ [UInt8.ofNat (u / 256 ^ (s - 1 - k))] = b ++ (be s u).take (k + 1) := by rw [be_take_succ hlt, List.append_assoc]
      rw [hk2] at hown2
      clear hk2 hl2 hl hown1 hb1
      go_wp2_with (at_builtin; refine wpList_append_run hap rfl _ _ rfl rfl rfl rfl ?_)
      go_roundw
      case rel => exact ⟨k + 1, by omega, by go_num, hown2, hbw.trans hb2⟩
      case measure => simp [intOf]; omega
    · obtain rfl : k = s := by omega
      rw [be_take_all] at hown
      clear hlt hown1 hb1
      go_wp2
      go_ret
      exact ⟨_, rfl, hown, hbw⟩

set_option maxHeartbeats 400000 in
theorem putNumber_no (b : Value) (n : Int) (w : World) (h : n < 0 ∨ 2147483647 < n) : Calls Try.prog 69 #[b, .int .i64 n] w (RefusedS w 1) := by
  rcases h with h | h
  · go_enter Try.func69, Try.ntmps69
    go_wp2
    go_ret2
    exact ⟨rfl, rfl⟩
  · have h2 : decide (n < 0) = false := by simp; omega
    go_enter Try.func69, Try.ntmps69
    go_wp2
    go_ret2
    exact ⟨rfl, rfl⟩

set_option maxHeartbeats 400000 in
theorem putNumber_yes (A : Option Addr) (n c : Nat) (b : List UInt8) (m : Int) (w : World) (hb : Rd w A n b) (hn : n ≤ 70368744177664) (h0 : 0 ≤ m) (h1 : m ≤ 2147483647) :
    Calls Try.prog 69 #[.slice A n c, .int .i64 m] w (GivesE w (b ++ be 4 m.toNat) 0) := by
  obtain ⟨u, rfl⟩ := Int.eq_ofNat_of_zero_le h0
  have h2 : decide (2147483647 < (u : Int)) = false := by simp; omega
  have h3 : decide ((u : Int) < 0) = false := by simp
  go_enter Try.func69, Try.ntmps69
  go_wp2_with fail
  refine (putBits_any A n c b u 4 w hb hn (by omega)).mono ?_
  rintro e w1 ⟨v, rfl, hown, hbw⟩
  go_wp2
  go_ret2
  exact ⟨v, rfl, hown, hbw⟩

set_option maxHeartbeats 400000 in
theorem putText_no (b : Value) (s : ByteArray) (w : World) (h : 65536 < s.size) : Calls Try.prog 56 #[b, .string s] w (RefusedS w 2) := by
  go_enter Try.func56, Try.ntmps56
  go_wp2
  go_ret2
  exact ⟨rfl, rfl⟩

set_option maxHeartbeats 400000 in
theorem putText_yes (A : Option Addr) (n c : Nat) (b : List UInt8) (s : ByteArray) (w : World) (hb : Rd w A n b) (hn : n ≤ 70368744177664) (h : s.size ≤ 65536) :
    Calls Try.prog 56 #[.slice A n c, .string s] w (GivesE w (b ++ be 4 s.size ++ s.data.toList) 0) := by
  go_enter Try.func56, Try.ntmps56
  go_wp2_with fail
  refine (putBits_any A n c b s.size 4 w hb hn (by omega)).mono ?_
  rintro e w1 ⟨v, rfl, hown, hbw⟩
  obtain ⟨v2, w2, hap, hown2, hg⟩ := run_app_string (P := Try.prog) w.heap.size 32 9 32 5 Try.underlying32 Try.underlying9 Try.infoU8 v _ hown s (by simp only [List.length_append, be_length, hb.len]; omega) hbw.size
  go_wp2_with (at_builtin; refine wpList_append_run hap rfl _ _ rfl rfl rfl rfl ?_)
  go_ret2
  exact ⟨v2, rfl, hown2, below_app hbw hown hg hbw.size⟩
end Go.Proofs.Ytcogglanbpphpaa

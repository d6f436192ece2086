/-
  What Sum, More and Seal do: contracts, one a function.
-/
import Derived.Test.YtcogglanbpphpaaSumA
namespace Go.Proofs.Ytcogglanbpphpaa
open Go.RowKit

/-- The sum of these bytes. -/
def sumOf (l : List UInt8) : BitVec 32 := crc 0#32 l
def GivesI (w : World) (s : BitVec 32) (e : Ending) (w' : World) : Prop := e = .returned (.int .i64 (s.toNat : Int)) ∧ Below w.heap.size w w'
def GivesM (w : World) (s : BitVec 32) (e : Ending) (w' : World) : Prop := e = .returned (.tuple #[.int .i64 (s.toNat : Int), .int .i64 0]) ∧ Below w.heap.size w w'

set_option maxHeartbeats 400000 in
theorem sum_any (A : Option Addr) (n c : Nat) (l : List UInt8) (w : World) (hb : Rd w A n l) (hn : n ≤ maxLen) :
    Calls Try.prog 11 #[.slice A n c] w (GivesI w (sumOf l)) := by
  go_enter Try.func11, Try.ntmps11
  go_wp2_with fail
  refine (through_any 0#32 A n c l w hb hn).mono ?_
  rintro e w1 ⟨rfl, bel⟩
  have hlt := (crc 0#32 l).isLt
  have hw : wrap64 ((crc 0#32 l).toNat : Int) = ((crc 0#32 l).toNat : Int) := by unfold wrap64; omega
  go_wp2
  go_ret
  exact ⟨rfl, bel⟩

/-- A block that holds an int. -/
def BoxI (w : World) (g : Nat) (m : Int) : Prop := w.heap[g]? = some (.cells #[.int .i64 m] 3 (0, 0))

set_option maxHeartbeats 400000 in
theorem sealByte_any (v : Value) (l : List UInt8) (k s g base : Nat) (w : World) (hown : Own 5 w base v l) (hk : k < 4) (hl : l.length + 1 ≤ 140737488355328) (hg : BoxI w g s) (hbase : base ≤ w.heap.size) :
    Calls Try.prog 26 #[v, .int .i64 (k : Int), .pointer (some ⟨g, 0, none⟩)] w
      fun e w' => ∃ v', e = .returned v' ∧ Own 5 w' base v' (l ++ [UInt8.ofNat (s / 256 ^ (4 - 1 - k))]) ∧ Below base w w' := by
  obtain ⟨v2, w2, hap, hown2, hb2⟩ := run_app_one (P := Try.prog) base 32 32 5 Try.underlying32 Try.infoU8 _ _ hown (.int .u8 ((s : Int) / 2 ^ (8 * (3 - k)) % 256)) (UInt8.ofNat (s / 256 ^ (4 - 1 - k)))
    (by rw [bv_ofNat, Int.natCast_ediv, Int.natCast_pow, show (2 : Int) ^ (8 * (3 - k)) = ((256 : Nat) : Int) ^ (4 - 1 - k) from by rw [Int.pow_mul]; rfl]) hl hbase
  have hc := cell_of_one hg
  clear hg hl
  go_enter Try.func26, Try.ntmps26
  go_wp2_with (at_builtin; refine wpList_append_run hap rfl _ _ rfl rfl rfl rfl ?_)
  go_ret
  exact ⟨v2, rfl, hown2, hb2⟩

/-- The relation of the loop that lays the sum behind the bytes. -/
def SealRel (l : List UInt8) (s base : Nat) (w : World) (v i : Value) (wr : World) : Prop :=
  ∃ k : Nat, k ≤ 4 ∧ i = .int .i64 k ∧ Own 5 wr base v (l ++ (be 4 s).take k) ∧ Below base w wr

set_option maxHeartbeats 400000 in
theorem times_seal (v : Value) (l : List UInt8) (s g base : Nat) (w : World) (hown : Own 5 w base v l) (hl : l.length + 4 ≤ 140737488355328) (hg : BoxI w g s) (hgb : g < base) (hbase : base ≤ w.heap.size) :
    Calls Try.prog 25 #[.int .i64 4, v, .func (.func 26) #[] #[.pointer (some ⟨g, 0, none⟩)]] w
      fun e w' => ∃ v', e = .returned v' ∧ Own 5 w' base v' (l ++ be 4 s) ∧ Below base w w' := by
  go_enter Try.func25, Try.ntmps25
  go_wp2_with fail
  go_loopw [1, 9] (SealRel l s base w) (fun _ i _ => 4 - (intOf i).toNat)
  case atStart => exact ⟨0, by omega, rfl, by simpa using hown, Below.refl _ _⟩
  case round =>
    clear hown
    obtain ⟨k, hk, rfl, hown, hbw⟩ := hrel
    by_cases hlt : k < 4
    · have hsz := Nat.le_trans hbase hbw.size
      have hl2 : (l ++ (be 4 s).take k).length + 1 ≤ 140737488355328 := by rw [List.length_append, List.length_take, be_length]; omega
      have hg2 : BoxI wr g s := (hbw.block g hgb).trans hg
      have Hk := Lib.hid (show (l ++ (be 4 s).take k) ++ [UInt8.ofNat (s / 256 ^ (4 - 1 - k))] = l ++ (be 4 s).take (k + 1) from by rw [be_take_succ hlt, List.append_assoc])
      go_wp2_with (go_at_call 26; refine (sealByte_any _ _ k s g base wr hown hlt hl2 hg2 hsz).mono ?_; rintro e w1 ⟨v1, rfl, hown1, hb1⟩)
      go_roundw
      case rel => exact ⟨k + 1, by omega, by go_num, by rw [← Hk.out]; exact hown1, hbw.trans hb1⟩
      case measure => simp [intOf]; omega
    · obtain rfl : k = 4 := by omega
      rw [be_take_all] at hown
      go_wp2
      go_ret
      exact ⟨_, rfl, hown, hbw⟩

set_option maxHeartbeats 400000 in
theorem seal_any (A : Option Addr) (n c : Nat) (l : List UInt8) (w : World) (hb : Rd w A n l) (hn : n ≤ 70368744177664) :
    Calls Try.prog 7 #[.slice A n c] w (Gives w (l ++ be 4 (sumOf l).toNat)) := by
  have hmk := run_make_bytes (P := Try.prog) Try.underlying32 Try.infoU8 n (n + 4) (by omega) (by omega)
  simp only [Int.natCast_add, Int.cast_ofNat_Int] at hmk
  have Hl := Lib.hid hb.len
  go_enter Try.func7, Try.ntmps7
  go_wp2_with fail
  refine (sum_any A n c l w hb (by simp only [maxLen]; omega)).mono ?_
  rintro e w1 ⟨rfl, bel⟩
  have b2 : Below w.heap.size w (w1.alloc (.cells #[.int .i64 ((sumOf l).toNat : Int)] 3)) := bel.alloc bel.size _
  have hbox : BoxI (w1.alloc (.cells #[.int .i64 ((sumOf l).toNat : Int)] 3)) w1.heap.size ((sumOf l).toNat : Int) := heap_alloc_new _ _
  have hr2 : Rd (w1.alloc (.cells #[.int .i64 ((sumOf l).toNat : Int)] 3)) A n l := hb.below b2
  obtain ⟨w3, hcp, hown3, b3⟩ := run_copy_new (P := Try.prog) 32 32 3 5 Try.underlying32 Try.infoU8 A n c (n + 4) l hr2 (by omega) (by simp only [maxLen]; omega)
  have hs2 : (w1.alloc (.cells #[.int .i64 ((sumOf l).toNat : Int)] 3)).heap.size = w1.heap.size + 1 := by simp
  rw [hs2] at hcp hown3 b3
  have hbox3 : BoxI w3 w1.heap.size ((sumOf l).toNat : Int) := (b3.block _ (by omega)).trans hbox
  have Hb := Lib.hid b2
  have Hx := Lib.hid hbox
  clear hr2 hs2 b2 hbox
  go_wp2_with fail
  have hlen : l.length + 4 ≤ 140737488355328 := by have := Hl.out; omega
  have hsz3 : w1.heap.size + 1 ≤ w3.heap.size := by have := b3.size; simpa using this
  refine (times_seal _ l (sumOf l).toNat w1.heap.size (w1.heap.size + 1) w3 hown3 hlen hbox3 (by omega) hsz3).mono ?_
  rintro e w4 ⟨v4, rfl, hown4, b4⟩
  clear hmk hcp
  go_wp2
  go_ret
  have hs := bel.size
  exact ⟨v4, rfl, hown4.mono (by omega), Hb.out.trans ((b3.mono (by omega)).trans (b4.mono (by omega)))⟩
end Go.Proofs.Ytcogglanbpphpaa

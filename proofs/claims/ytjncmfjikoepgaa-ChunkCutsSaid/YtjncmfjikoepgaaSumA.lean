/-
  What the functions of package sum do with the word: contracts, one a function.
-/
import Derived.Test.YtjncmfjikoepgaaSumMath
import Derived.Test.YtjncmfjikoepgaaBase
import Derived.Laws.BitsAllLaws
namespace Go.Proofs.Ytjncmfjikoepgaa
open Go.RowKit

theorem right_num (v : BitVec 32) : bits .xor .u32 ((v.toNat : Int) / 2) (3988292384 * bits .and .u32 (v.toNat : Int) 1 % 4294967296) = ((stp v).toNat : Int) := by
  have h := v.isLt
  rw [u32_and (v.toNat : Int) 1 (by omega) (by omega) (by omega) (by omega), Int.toNat_natCast, show (1 : Int).toNat = 1 from rfl, nat_mask1]
  rw [u32_xor _ _ (by omega) (by omega) (by omega) (by omega)]
  rw [stp_mul]
  congr 2
  rcases Nat.mod_two_eq_zero_or_one v.toNat with h2 | h2 <;> rw [h2] <;> rfl

set_option maxHeartbeats 400000 in
theorem right_any (v : BitVec 32) (i : Int) (w : World) :
    Calls Try.prog 47 #[.int .u32 (v.toNat : Int), .int .i64 i] w fun e w' => e = .returned (.int .u32 ((stp v).toNat : Int)) ∧ w = w' := by
  go_enter Try.func47, Try.ntmps47
  go_wp2
  go_ret
  exact ⟨congrArg (fun n => Ending.returned (.int .u32 n)) (right_num v), rfl⟩

set_option maxHeartbeats 400000 in
theorem times_right (v : BitVec 32) (w : World) :
    Calls Try.prog 45 #[.int .i64 8, .int .u32 (v.toNat : Int), .func (.func 47) #[] #[]] w fun e w' => e = .returned (.int .u32 ((stps 8 v).toNat : Int)) ∧ w = w' := by
  go_enter Try.func45, Try.ntmps45
  go_wp2_with fail
  go_loop [1, 9] (fun x i => ∃ k : Nat, k ≤ 8 ∧ i = .int .i64 k ∧ x = .int .u32 ((stps k v).toNat : Int)) (fun _ i => 8 - (intOf i).toNat)
  case atStart => exact ⟨0, by omega, rfl, rfl⟩
  case round =>
    obtain ⟨k, hk, rfl, rfl⟩ := hrel
    by_cases hlt : k < 8
    · go_wp2_with (go_at_call 47; refine (right_any _ _ w).mono ?_; rintro e w1 ⟨rfl, rfl⟩)
      refine ⟨⟨k + 1, by omega, by go_num, rfl⟩, by simp [intOf]; omega⟩
    · obtain rfl : k = 8 := by omega
      go_wp2
      go_ret
      exact ⟨rfl, rfl⟩

/-- A block that holds the slice of bytes l. -/
def Boxed (w : World) (g : Nat) (l : List UInt8) : Prop := ∃ A n c, w.heap[g]? = some (.cells #[.slice A n c] 45 (0, 0)) ∧ Rd w A n l

set_option maxHeartbeats 400000 in
theorem byte_any (v : BitVec 32) (i : Nat) (g : Nat) (l : List UInt8) (x : UInt8) (w : World) (hb : Boxed w g l) (hx : l[i]? = some x) :
    Calls Try.prog 46 #[.int .u32 (v.toNat : Int), .int .i64 (i : Int), .pointer (some ⟨g, 0, none⟩)] w fun e w' => e = .returned (.int .u32 ((byt v x).toNat : Int)) ∧ w = w' := by
  obtain ⟨A, n, c, hh, hr⟩ := hb
  have hi : i < n := by
    have := hr.len
    have := (List.getElem?_eq_some_iff.1 hx).1
    omega
  obtain ⟨b, off, x2, rfl, _, hx2, hc⟩ := hr.cell hi
  obtain rfl : x2 = x := by rw [hx] at hx2; injection hx2 with h; exact h.symm
  have hg := cell_of_one hh
  have hxor : bits .xor .u32 (v.toNat : Int) ((x2.toNat : Int) % 4294967296) = ((v ^^^ bw x2).toNat : Int) := by
    have h1 := v.isLt
    have h2 := x2.toNat_lt
    rw [show (x2.toNat : Int) % 4294967296 = (x2.toNat : Int) from by omega, u32_xor_nat _ _ h1 (by omega), BitVec.toNat_xor, bw_toNat]
  have Hxor := Lib.hid hxor
  clear hh hr hx hx2 hxor
  go_enter Try.func46, Try.ntmps46
  go_wp2_with fail
  rw [Hxor.out]
  refine (times_right _ w).mono ?_
  rintro e w1 ⟨rfl, rfl⟩
  clear Hxor
  go_wp2
  go_ret
  exact ⟨rfl, rfl⟩

set_option maxHeartbeats 400000 in
theorem times_through (v : BitVec 32) (g : Nat) (l : List UInt8) (w : World) (hb : Boxed w g l) (n : Nat) (hn : l.length = n) (hm : n ≤ maxLen) :
    Calls Try.prog 45 #[.int .i64 (n : Int), .int .u32 (v.toNat : Int), .func (.func 46) #[] #[.pointer (some ⟨g, 0, none⟩)]] w
      fun e w' => e = .returned (.int .u32 ((wrd v l).toNat : Int)) ∧ w = w' := by
  unfold maxLen at hm
  have Hn := Lib.hid hn
  clear hn
  go_enter Try.func45, Try.ntmps45
  go_wp2_with fail
  go_loop [1, 9] (fun x i => ∃ k : Nat, k ≤ n ∧ i = .int .i64 k ∧ x = .int .u32 ((wrd v (l.take k)).toNat : Int)) (fun _ i => n - (intOf i).toNat)
  case atStart => exact ⟨0, by omega, rfl, rfl⟩
  case round =>
    obtain ⟨k, hk, rfl, rfl⟩ := hrel
    by_cases hlt : k < n
    · have hl : k < l.length := by rw [Hn.out]; exact hlt
      have hx : l[k]? = some l[k] := List.getElem?_eq_getElem hl
      have hs := Lib.hid (wrd_take_succ v l hx)
      have Hx := Lib.hid hx
      clear hx
      go_wp2_with (go_at_call 46; refine (byte_any _ k g l _ w hb Hx.out).mono ?_; rintro e w1 ⟨rfl, rfl⟩)
      refine ⟨⟨k + 1, by omega, by go_num, by rw [hs.out]⟩, by simp [intOf]; omega⟩
    · obtain rfl : k = n := by omega
      have hs : l.take k = l := List.take_of_length_le (by rw [Hn.out]; omega)
      rw [hs]
      go_wp2
      go_ret
      exact ⟨rfl, rfl⟩

/-- What a call that makes a word says. -/
def GivesW (w : World) (s : BitVec 32) (e : Ending) (w' : World) : Prop := e = .returned (.int .u32 (s.toNat : Int)) ∧ Below w.heap.size w w'
theorem not_num (v : BitVec 32) : bits .xor .u32 4294967295 (v.toNat : Int) = ((~~~v).toNat : Int) := by
  have h1 := v.isLt
  rw [u32_xor _ _ (by omega) (by omega) (by omega) (by omega), ← BitVec.allOnes_xor, BitVec.toNat_xor, Int.toNat_natCast]
  rfl

set_option maxHeartbeats 400000 in
theorem through_any (s : BitVec 32) (A : Option Addr) (n c : Nat) (l : List UInt8) (w : World) (hb : Rd w A n l) (hn : n ≤ maxLen) :
    Calls Try.prog 35 #[.int .u32 (s.toNat : Int), .slice A n c] w (GivesW w (crc s l)) := by
  have hbox : Boxed (w.alloc (.cells #[.slice A n c] 45)) w.heap.size l := ⟨A, n, c, heap_alloc_new _ _, hb.alloc _⟩
  have Hl := Lib.hid hb.len
  have Hn := Lib.hid (not_num s)
  have Hn2 := Lib.hid (not_num (wrd (~~~s) l))
  have hsg : IntKind.u32.signed = false := rfl
  have hmx : IntKind.u32.max = 4294967295 := rfl
  go_enter Try.func35, Try.ntmps35
  go_wp2_with fail
  rw [Hn.out]
  refine (times_through (~~~s) w.heap.size l _ hbox n Hl.out hn).mono ?_
  rintro e w1 ⟨rfl, rfl⟩
  go_wp2
  go_ret
  exact ⟨congrArg (fun n => Ending.returned (.int .u32 n)) Hn2.out, (Below.refl _ _).alloc (Nat.le_refl _) _⟩
end Go.Proofs.Ytjncmfjikoepgaa

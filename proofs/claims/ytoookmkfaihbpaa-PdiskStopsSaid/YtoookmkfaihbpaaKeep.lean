/-
  What the statements' own helpers for lent bytes do (tumuluskeep.Lent, tumuluskeep.Kept): contracts.
-/
import Derived.Test.YtoookmkfaihbpaaBase
namespace Go.Proofs.Ytoookmkfaihbpaa
open Go.RowKit

/-- The room that is lent behind bytes. -/
def pad (k : Nat) : List UInt8 := List.replicate k 157
theorem pad_length (k : Nat) : (pad k).length = k := by simp [pad]
theorem pad_succ (k : Nat) : pad (k + 1) = pad k ++ [157] := by simp [pad, List.replicate_succ']

def LentPost (w : World) (b : List UInt8) (e : Ending) (w' : World) : Prop :=
  ∃ A c, e = .returned (.slice A b.length c) ∧ b.length + 6 ≤ c ∧ c ≤ maxLen ∧ Rd w' A (b.length + 6) (b ++ pad 6) ∧ Below w.heap.size w w'
def LentRel (b : List UInt8) (w : World) (v i : Value) (wr : World) : Prop :=
  ∃ k : Nat, k ≤ 6 ∧ i = .int .i64 k ∧ Own 5 wr w.heap.size v (b ++ pad k) ∧ Below w.heap.size w wr

set_option maxRecDepth 20000 in
set_option maxHeartbeats 1000000 in
theorem lent_any (A : Option Addr) (n c : Nat) (b : List UInt8) (w : World) (hb : Rd w A n b) (hn : n ≤ 70368744177664) :
    Calls Try.prog 22 #[.slice A n c] w (LentPost w b) := by
  obtain ⟨v1, w1, hap, hown1, hg1, _⟩ := run_app (P := Try.prog) w.heap.size 23 23 5 Try.underlying23 Try.infoU8 (.slice none 0 0) [] Own.nil A n c b hb (by simp; omega) (Nat.le_refl _)
  rw [List.nil_append] at hown1
  have hb1 := below_app (Below.refl w.heap.size w) (Own.nil (U := 5)) hg1 (Nat.le_refl _)
  have hl := hb.len
  go_enter Try.func22, Try.ntmps22
  go_wp2_with (at_builtin; refine wpList_append_run hap rfl _ _ rfl rfl rfl rfl ?_)
  clear hap hg1
  go_loopw [3, 4] (LentRel b w) (fun _ i _ => 6 - (intOf i).toNat)
  case atStart => exact ⟨0, by omega, rfl, by simpa [pad] using hown1, hb1⟩
  case round =>
    clear hown1 hb1
    obtain ⟨k, hk, rfl, hown, hbw⟩ := hrel
    by_cases hlt : k < 6
    · have hsz := hbw.size
      have hl2 : (b ++ pad k).length ≤ n + 6 := by rw [List.length_append, hl, pad_length]; omega
      obtain ⟨v2, w2, hap, hown2, hb2⟩ := run_app_one (P := Try.prog) w.heap.size 23 23 5 Try.underlying23 Try.infoU8 _ _ hown (.int .u8 157) 157 rfl (by omega) hsz
      rw [List.append_assoc, ← pad_succ] at hown2
      clear hl2 hl
      go_wp2_with (at_builtin; refine wpList_append_run hap rfl _ _ rfl rfl rfl rfl ?_)
      go_roundw
      case rel => exact ⟨k + 1, by omega, by go_num, hown2, hbw.trans hb2⟩
      case measure => simp [intOf]; omega
    · obtain rfl : k = 6 := by omega
      obtain ⟨A', c', rfl, hlc, hcm, hrd⟩ := hown.shape
      have hl2 : (b ++ pad 6).length = n + 6 := by rw [List.length_append, hl, pad_length]
      rw [hl2] at hlc hrd
      unfold maxLen at hcm
      go_wp2
      go_ret
      exact ⟨A', c', by rw [hl]; rfl, by rw [hl]; exact hlc, by unfold maxLen; exact hcm, by rw [hl]; exact hrd, hbw⟩

set_option maxRecDepth 20000 in
set_option maxHeartbeats 1000000 in
theorem kept_yes (A A2 : Option Addr) (n c c2 : Nat) (b : List UInt8) (w : World) (ho : Rd w A (n + 6) (b ++ pad 6)) (hc : n + 6 ≤ c) (hm : c ≤ maxLen) (hb : Rd w A2 n b) :
    Calls Try.prog 23 #[.slice A n c, .slice A2 n c2] w fun e w' => e = .returned (.bool true) ∧ w = w' := by
  unfold maxLen at hm
  have hl := hb.len
  have ho' : Rd w A n b := by
    have h := ho.take (k := n) (by omega)
    rw [List.take_append_of_le_length (by omega), List.take_of_length_le (by omega)] at h
    exact h
  have k1 := ho'.conv (P := Try.prog) c 23 5 9 Try.underlying23 Try.underlying5 Try.underlying9
  have k2 := hb.conv (P := Try.prog) c2 23 5 9 Try.underlying23 Try.underlying5 Try.underlying9
  have Hl := Lib.hid hl
  clear hl
  obtain ⟨bb, off, rfl, _, hcell⟩ := ho.at_ (by omega)
  go_enter Try.func23, Try.ntmps23
  go_wp2_with fail
  clear k1 k2
  go_loop [6] (fun i => ∃ k : Nat, k ≤ 6 ∧ i = .int .i64 ((n + k : Nat) : Int)) (fun i => (n + 6 : Nat) - (intOf i).toNat)
  case atStart => exact ⟨0, by omega, rfl⟩
  case round =>
    obtain ⟨k, hk, rfl⟩ := hrel
    by_cases hlt : k < 6
    · have hx : w.cell? ⟨bb, off + (n + k), none⟩ = some (.int .u8 157) := by
        have := hcell (n + k) 157 (by
          rw [List.getElem?_append_right (by rw [Hl.out]; omega), Hl.out, show n + k - n = k from by omega]
          unfold pad
          rw [List.getElem?_replicate, if_pos hlt])
        exact this
      clear hcell
      go_wp2
      refine ⟨⟨k + 1, by omega, ?_⟩, by simp [intOf]; omega⟩
      rw [show (n : Int) + (k : Int) + 1 = ((n + (k + 1) : Nat) : Int) from by omega]
    · go_wp2
      go_ret
      exact ⟨rfl, rfl⟩

end Go.Proofs.Ytoookmkfaihbpaa

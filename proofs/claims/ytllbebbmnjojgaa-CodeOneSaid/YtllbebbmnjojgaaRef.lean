/-
  What the document's own answers for layer 1, and the statements' own helpers (lent bytes, kept bytes), do: contracts, one a function.
-/
import Derived.Test.YtllbebbmnjojgaaPut
namespace Go.Proofs.Ytllbebbmnjojgaa
open Go.RowKit

set_option maxHeartbeats 400000 in
theorem refNumber_no (n : Int) (w : World) (h : n < 0 ∨ 2147483647 < n) : Calls Try.prog 14 #[.int .i64 n] w (Refused w 1) := by
  go_enter Try.func14, Try.ntmps14
  go_wp2_with fail
  refine (is_no n w h).mono ?_
  rintro e w1 ⟨rfl, rfl⟩
  clear h
  go_wp2
  go_ret2
  exact ⟨rfl, rfl⟩
set_option maxHeartbeats 400000 in
theorem refNumber_yes (n : Int) (w : World) (h0 : 0 ≤ n) (h1 : n ≤ 2147483647) : Calls Try.prog 14 #[.int .i64 n] w (GivesE w (be 4 n.toNat) 0) := by
  go_enter Try.func14, Try.ntmps14
  go_wp2_with fail
  refine (is_yes n w h0 h1).mono ?_
  rintro e w1 ⟨rfl, rfl⟩
  go_wp2_with fail
  refine (four_any n w h0 (by omega)).mono ?_
  rintro e w1 ⟨v, rfl, hown, hbw⟩
  go_wp2
  go_ret2
  exact ⟨v, rfl, hown, hbw⟩
set_option maxHeartbeats 400000 in
theorem refText_no (s : ByteArray) (w : World) (h : 65536 < s.size) : Calls Try.prog 20 #[.string s] w (Refused w 2) := by
  go_enter Try.func20, Try.ntmps20
  go_wp2
  go_ret2
  exact ⟨rfl, rfl⟩
set_option maxHeartbeats 400000 in
theorem refText_yes (s : ByteArray) (w : World) (h : s.size ≤ 65536) : Calls Try.prog 20 #[.string s] w (GivesE w (be 4 s.size ++ s.data.toList) 0) := by
  go_enter Try.func20, Try.ntmps20
  go_wp2_with fail
  refine (four_any s.size w (by omega) (by omega)).mono ?_
  rintro e w1 ⟨v, rfl, hown, hbw⟩
  obtain ⟨v2, w2, hap, hown2, hg⟩ := run_app_string (P := Try.prog) w.heap.size 22 9 22 5 Try.underlying22 Try.underlying9 Try.infoU8 v _ hown s (by simp only [be_length]; omega) hbw.size
  go_wp2_with (at_builtin; refine wpList_append_run hap rfl _ _ rfl rfl rfl rfl ?_)
  go_ret2
  exact ⟨v2, rfl, hown2, below_app hbw hown hg hbw.size⟩

/-- The relation of Eight's loop, which goes down. -/
def EightRel (u : Nat) (w : World) (v i : Value) (wr : World) : Prop :=
  ∃ k : Nat, k ≤ 8 ∧ i = .int .i64 (7 - (k : Int)) ∧ Own 5 wr w.heap.size v ((be 8 u).take k) ∧ Below w.heap.size w wr

set_option maxHeartbeats 400000 in
theorem eight_any (m : Int) (w : World) : Calls Try.prog 18 #[.int .i64 m] w (Gives w (be 8 (u64n m))) := by
  have hwr := wrap_u64n m
  obtain ⟨u, hu⟩ : ∃ u, u = u64n m := ⟨_, rfl⟩
  rw [← hu] at hwr ⊢
  clear hu
  go_enter Try.func18, Try.ntmps18
  go_wp2_with fail
  clear hwr
  go_loopw [4, 5] (EightRel u w) (fun _ i _ => (intOf i + 1).toNat)
  case atStart => exact ⟨0, by omega, rfl, Own.nil, Below.refl _ _⟩
  case round =>
    obtain ⟨k, hk, rfl, hown, hbw⟩ := hrel
    by_cases hlt : k < 8
    · have hsz := hbw.size
      have hl2 : ((be 8 u).take k).length ≤ 8 := by rw [List.length_take, be_length]; omega
      have h0 : decide (0 ≤ 7 - (k : Int)) = true := by simp; omega
      obtain ⟨v2, w2, hap, hown2, hb2⟩ := run_app_one (P := Try.prog) w.heap.size 22 22 5 Try.underlying22 Try.infoU8 _ _ hown (.int .u8 ((u : Int) / 2 ^ (8 * (7 - k)) % 256)) (UInt8.ofNat (u / 256 ^ (8 - 1 - k)))
        (by rw [bv_ofNat, Int.natCast_ediv, Int.natCast_pow, show (2 : Int) ^ (8 * (7 - k)) = ((256 : Nat) : Int) ^ (8 - 1 - k) from by rw [Int.pow_mul]; rfl]) (by omega) hsz
      rw [← be_take_succ hlt] at hown2
      clear hl2
      go_wp2_with (at_builtin; refine wpList_append_run hap rfl _ _ rfl rfl rfl rfl ?_)
      go_roundw
      case rel => exact ⟨k + 1, by omega, by rw [show (7 : Int) - ((k + 1 : Nat) : Int) = 7 - (k : Int) - 1 from by omega], hown2, hbw.trans hb2⟩
      case measure => simp [intOf]; omega
    · obtain rfl : k = 8 := by omega
      rw [be_take_all] at hown
      clear hlt
      go_wp2
      go_ret
      exact ⟨_, rfl, hown, hbw⟩

/-- The room that is lent behind bytes. -/
def pad (k : Nat) : List UInt8 := List.replicate k 157
theorem pad_length (k : Nat) : (pad k).length = k := by simp [pad]
theorem pad_succ (k : Nat) : pad (k + 1) = pad k ++ [157] := by simp [pad, List.replicate_succ']

def LentPost (w : World) (b : List UInt8) (e : Ending) (w' : World) : Prop :=
  ∃ A c, e = .returned (.slice A b.length c) ∧ b.length + 6 ≤ c ∧ c ≤ maxLen ∧ Rd w' A (b.length + 6) (b ++ pad 6) ∧ Below w.heap.size w w'
def LentRel (b : List UInt8) (w : World) (v i : Value) (wr : World) : Prop :=
  ∃ k : Nat, k ≤ 6 ∧ i = .int .i64 k ∧ Own 5 wr w.heap.size v (b ++ pad k) ∧ Below w.heap.size w wr

set_option maxHeartbeats 400000 in
theorem lent_any (A : Option Addr) (n c : Nat) (b : List UInt8) (w : World) (hb : Rd w A n b) (hn : n ≤ 70368744177664) :
    Calls Try.prog 12 #[.slice A n c] w (LentPost w b) := by
  obtain ⟨v1, w1, hap, hown1, hg1, _⟩ := run_app (P := Try.prog) w.heap.size 22 22 5 Try.underlying22 Try.infoU8 (.slice none 0 0) [] Own.nil A n c b hb (by simp; omega) (Nat.le_refl _)
  rw [List.nil_append] at hown1
  have hb1 := below_app (Below.refl w.heap.size w) (Own.nil (U := 5)) hg1 (Nat.le_refl _)
  have hl := hb.len
  go_enter Try.func12, Try.ntmps12
  go_wp2_with (at_builtin; refine wpList_append_run hap rfl _ _ rfl rfl rfl rfl ?_)
  clear hap hg1
  go_loopw [3, 4] (LentRel b w) (fun _ i _ => 6 - (intOf i).toNat)
  case atStart => exact ⟨0, by omega, rfl, by simpa [pad] using hown1, hb1⟩
  case round =>
    clear hown1 hb1
    obtain ⟨k, hk, rfl, hown, hbw⟩ := hrel
    by_cases hlt : k < 6
    · have hsz := hbw.size
      have hl2 : (b ++ pad k).length ≤ n + 6 := by rw [List.length_append, hl, pad_length]; omega
      obtain ⟨v2, w2, hap, hown2, hb2⟩ := run_app_one (P := Try.prog) w.heap.size 22 22 5 Try.underlying22 Try.infoU8 _ _ hown (.int .u8 157) 157 rfl (by omega) hsz
      rw [List.append_assoc, ← pad_succ] at hown2
      clear hl2 hl
      go_wp2_with (at_builtin; refine wpList_append_run hap rfl _ _ rfl rfl rfl rfl ?_)
      go_roundw
      case rel => exact ⟨k + 1, by omega, by go_num, hown2, hbw.trans hb2⟩
      case measure => simp [intOf]; omega
    · obtain rfl : k = 6 := by omega
      obtain ⟨A', c', rfl, hlc, hcm, hrd⟩ := hown.shape
      have hl2 : (b ++ pad 6).length = n + 6 := by rw [List.length_append, hl, pad_length]
      rw [hl2] at hlc hrd
      unfold maxLen at hcm
      go_wp2
      go_ret
      exact ⟨A', c', by rw [hl]; rfl, by rw [hl]; exact hlc, by unfold maxLen; exact hcm, by rw [hl]; exact hrd, hbw⟩

set_option maxHeartbeats 400000 in
theorem kept_yes (A A2 : Option Addr) (n c c2 : Nat) (b : List UInt8) (w : World) (ho : Rd w A (n + 6) (b ++ pad 6)) (hc : n + 6 ≤ c) (hm : c ≤ maxLen) (hb : Rd w A2 n b) :
    Calls Try.prog 30 #[.slice A n c, .slice A2 n c2] w fun e w' => e = .returned (.bool true) ∧ w = w' := by
  unfold maxLen at hm
  have hl := hb.len
  have ho' : Rd w A n b := by
    have h := ho.take (k := n) (by omega)
    rw [List.take_append_of_le_length (by omega), List.take_of_length_le (by omega)] at h
    exact h
  have k1 := ho'.conv (P := Try.prog) c 22 5 9 Try.underlying22 Try.underlying5 Try.underlying9
  have k2 := hb.conv (P := Try.prog) c2 22 5 9 Try.underlying22 Try.underlying5 Try.underlying9
  have Hl := Lib.hid hl
  clear hl
  obtain ⟨bb, off, rfl, _, hcell⟩ := ho.at_ (by omega)
  go_enter Try.func30, Try.ntmps30
  go_wp2_with fail
  clear k1 k2
  go_loop [6] (fun i => ∃ k : Nat, k ≤ 6 ∧ i = .int .i64 ((n + k : Nat) : Int)) (fun i => (n + 6 : Nat) - (intOf i).toNat)
  case atStart => exact ⟨0, by omega, rfl⟩
  case round =>
    obtain ⟨k, hk, rfl⟩ := hrel
    by_cases hlt : k < 6
    · have hx : w.cell? ⟨bb, off + (n + k), none⟩ = some (.int .u8 157) := by
        have := hcell (n + k) 157 (by
          rw [List.getElem?_append_right (by rw [Hl.out]; omega), Hl.out, show n + k - n = k from by omega]
          unfold pad
          rw [List.getElem?_replicate, if_pos hlt])
        exact this
      clear hcell
      go_wp2
      refine ⟨⟨k + 1, by omega, ?_⟩, by simp [intOf]; omega⟩
      rw [show (n : Int) + (k : Int) + 1 = ((n + (k + 1) : Nat) : Int) from by omega]
    · go_wp2
      go_ret
      exact ⟨rfl, rfl⟩

/-- Two rows of bytes as strings, one behind the other. -/
theorem str_append (l m : List UInt8) : (ByteArray.mk l.toArray ++ ByteArray.mk m.toArray) = ByteArray.mk (l ++ m).toArray := ByteArray.mk_append_mk l m

set_option maxHeartbeats 400000 in
theorem behind_yes (G A A2 M : Option Addr) (gc n c c2 m mc : Nat) (b more : List UInt8) (w : World) (hg : Rd w G (n + m) (b ++ more)) (ho : Rd w A (n + 6) (b ++ pad 6)) (hc : n + 6 ≤ c) (hm : c ≤ maxLen) (hb : Rd w A2 n b) (hmore : Rd w M m more)
    (hn : n ≤ 70368744177664) (hmm : m ≤ 70368744177664) :
    Calls Try.prog 16 #[.slice G (n + m) gc, .int .i64 0, .slice A n c, .slice A2 n c2, .slice M m mc, .int .i64 0] w fun e w' => e = .returned (.bool true) ∧ w = w' := by
  have k1 := hb.conv (P := Try.prog) c2 22 5 9 Try.underlying22 Try.underlying5 Try.underlying9
  have k2 := hmore.conv (P := Try.prog) mc 22 5 9 Try.underlying22 Try.underlying5 Try.underlying9
  have k3 := hg.conv (P := Try.prog) gc 22 5 9 Try.underlying22 Try.underlying5 Try.underlying9
  have hl := hb.len
  have hl2 := hmore.len
  have k4 := run_string_add_sum (P := Try.prog) (w := w) ⟨b.toArray⟩ ⟨more.toArray⟩ (by simp [ByteArray.size]; omega)
  rw [str_append] at k4
  clear hl hl2
  go_enter Try.func16, Try.ntmps16
  go_wp2_with fail
  refine (kept_yes A A2 n c c2 b w ho hc hm hb).mono ?_
  rintro e w1 ⟨rfl, rfl⟩
  clear k1 k2 k3 k4
  go_wp2
  go_ret
  exact ⟨rfl, rfl⟩

set_option maxHeartbeats 400000 in
theorem behind_no (A A2 M : Option Addr) (n c c2 m mc : Nat) (b : List UInt8) (er : Int) (w : World) (ho : Rd w A (n + 6) (b ++ pad 6)) (hc : n + 6 ≤ c) (hm : c ≤ maxLen) (hb : Rd w A2 n b) (he : er = 1 ∨ er = 2) :
    Calls Try.prog 16 #[.slice none 0 0, .int .i64 er, .slice A n c, .slice A2 n c2, .slice M m mc, .int .i64 er] w fun e w' => e = .returned (.bool true) ∧ w = w' := by
  rcases he with rfl | rfl
  all_goals
    have k3 := (Rd.nil (A := none) (w := w)).conv (P := Try.prog) 0 22 5 9 Try.underlying22 Try.underlying5 Try.underlying9
    go_enter Try.func16, Try.ntmps16
    go_wp2_with fail
    refine (kept_yes A A2 n c c2 b w ho hc hm hb).mono ?_
    rintro e w1 ⟨rfl, rfl⟩
    go_wp2
    go_ret
    exact ⟨rfl, rfl⟩

/-- The law, or a part of it, says true, and what was there stays. -/
def Holds (w : World) (e : Ending) (w' : World) : Prop := e = .returned (.bool true) ∧ Below w.heap.size w w'

set_option maxHeartbeats 1000000 in
theorem puts_any (w : World) : Calls Try.prog 15 #[] w (Holds w) := by
  go_enter Try.func15, Try.ntmps15
  go_wp2_with fail
  refine (putNumber_yes none 0 0 [] 258 w Rd.nil (by omega) (by omega) (by omega)).mono ?_
  rintro e w1 ⟨v1, rfl, hown1, hb1⟩
  go_wp2_with fail
  refine (putNumber_no (.slice none 0 0) (-1) w1 (by omega)).mono ?_
  rintro e w2 ⟨rfl, rfl⟩
  go_wp2_with fail
  refine (putText_yes none 0 0 [] ⟨#[97, 98]⟩ w1 Rd.nil (by omega) (by decide)).mono ?_
  rintro e w3 ⟨v3, rfl, hown3, hb3⟩
  rw [show [] ++ be 4 (258 : Int).toNat = [0, 0, 1, 2] from by decide] at hown1
  rw [show [] ++ be 4 (ByteArray.mk #[97, 98]).size ++ (ByteArray.mk #[97, 98]).data.toList = [0, 0, 0, 2, 97, 98] from by decide] at hown3
  obtain ⟨A1, c1, rfl, _, _, r1⟩ := (hown1.below hb3).shapeN (n := 4) rfl
  obtain ⟨A3, c3, rfl, _, _, r3⟩ := hown3.shapeN (n := 6) rfl
  have k1 := r1.conv (P := Try.prog) c1 22 5 9 Try.underlying22 Try.underlying5 Try.underlying9
  have k3 := r3.conv (P := Try.prog) c3 22 5 9 Try.underlying22 Try.underlying5 Try.underlying9
  clear hown1 hown3 r1 r3
  go_wp2
  go_ret
  exact ⟨rfl, hb1.trans (hb3.mono hb1.size)⟩
end Go.Proofs.Ytllbebbmnjojgaa

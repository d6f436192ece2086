/-
  The walks of the laws CodeNumbers, CodeInts, CodeTexts: each says true, whatever came in, and nothing that was there is written over.
-/
import Derived.Test.YtllbebbmnjojgaaRef
namespace Go.Proofs.Ytllbebbmnjojgaa
open Go.RowKit

theorem holds_long (w : World) : Holds w (.returned (.bool true)) w := ⟨rfl, Below.refl _ _⟩

set_option maxHeartbeats 1000000 in
theorem codeNumbers_walk (A : Option Addr) (n c : Nat) (b : List UInt8) (m : Int) (w : World) (hb : Rd w A n b) :
    Calls Try.prog 3 #[.slice A n c, .int .i64 m] w (Holds w) := by
  by_cases hn : 262144 < n
  · go_enter Try.func3, Try.ntmps3
    go_wp2
    go_ret
    exact ⟨rfl, Below.refl _ _⟩
  · have hl := hb.len
    have Hl := Lib.hid hl
    clear hl
    go_enter Try.func3, Try.ntmps3
    go_wp2_with fail
    refine (lent_any A n c b w hb (by omega)).mono ?_
    rintro e w1 ⟨A1, c1, rfl, hc1, hm1, r1, b1⟩
    rw [Hl.out] at hc1 r1 ⊢
    go_wp2_with fail
    have r1' : Rd w1 A1 n b := by
      have h := r1.take (k := n) (by omega)
      rw [List.take_append_of_le_length (by rw [Hl.out]; omega), List.take_of_length_le (by rw [Hl.out]; omega)] at h
      exact h
    by_cases hy : 0 ≤ m ∧ m ≤ 2147483647
    · refine (putNumber_yes A1 n c1 b m w1 r1' (by omega) hy.1 hy.2).mono ?_
      rintro e w2 ⟨v2, rfl, o2, b2⟩
      go_wp2_with fail
      refine (refNumber_yes m w2 hy.1 hy.2).mono ?_
      rintro e w3 ⟨v3, rfl, o3, b3⟩
      go_wp2_with fail
      refine (puts_any w3).mono ?_
      rintro e w4 ⟨rfl, b4⟩
      obtain ⟨A2, c2, rfl, _, _, r2⟩ := ((o2.below b3).below b4).shapeN (n := n + 4) (by rw [List.length_append, be_length, Hl.out])
      obtain ⟨A3, c3, rfl, _, _, r3⟩ := (o3.below b4).shapeN (n := 4) (be_length _ _)
      go_wp2_with fail
      refine (behind_yes A2 A1 A A3 c2 n c1 c 4 c3 b _ w4 r2 (((r1.below b2).below b3).below b4) hc1 hm1 ((((hb.below b1).below b2).below b3).below b4) r3 (by omega) (by omega)).mono ?_
      rintro e w5 ⟨rfl, rfl⟩
      go_wp2
      go_ret
      exact ⟨rfl, b1.trans ((b2.trans ((b3.trans (b4.mono b3.size)).mono b2.size)).mono b1.size)⟩
    · refine (putNumber_no _ m w1 (by omega)).mono ?_
      rintro e w2 ⟨rfl, rfl⟩
      go_wp2_with fail
      refine (refNumber_no m w1 (by omega)).mono ?_
      rintro e w3 ⟨rfl, rfl⟩
      go_wp2_with fail
      refine (puts_any w1).mono ?_
      rintro e w4 ⟨rfl, b4⟩
      go_wp2_with fail
      refine (behind_no A1 A none n c1 c 0 0 b 1 w4 (r1.below b4) hc1 hm1 ((hb.below b1).below b4) (.inl rfl)).mono ?_
      rintro e w5 ⟨rfl, rfl⟩
      go_wp2
      go_ret
      exact ⟨rfl, b1.trans (b4.mono b1.size)⟩

set_option maxHeartbeats 1000000 in
theorem codeInts_walk (A : Option Addr) (n c : Nat) (b : List UInt8) (m : Int) (w : World) (hb : Rd w A n b) :
    Calls Try.prog 4 #[.slice A n c, .int .i64 m] w (Holds w) := by
  by_cases hn : 262144 < n
  · go_enter Try.func4, Try.ntmps4
    go_wp2
    go_ret
    exact ⟨rfl, Below.refl _ _⟩
  · have hl := hb.len
    have Hl := Lib.hid hl
    clear hl
    go_enter Try.func4, Try.ntmps4
    go_wp2_with fail
    refine (lent_any A n c b w hb (by omega)).mono ?_
    rintro e w1 ⟨A1, c1, rfl, hc1, hm1, r1, b1⟩
    rw [Hl.out] at hc1 r1 ⊢
    go_wp2_with fail
    have r1' : Rd w1 A1 n b := by
      have h := r1.take (k := n) (by omega)
      rw [List.take_append_of_le_length (by rw [Hl.out]; omega), List.take_of_length_le (by rw [Hl.out]; omega)] at h
      exact h
    refine (puts_any w1).mono ?_
    rintro e w2 ⟨rfl, b2⟩
    go_wp2_with fail
    refine (putInt_any A1 n c1 b m w2 (r1'.below b2) (by omega)).mono ?_
    rintro e w3 ⟨v3, rfl, o3, b3⟩
    go_wp2_with fail
    refine (eight_any m w3).mono ?_
    rintro e w4 ⟨v4, rfl, o4, b4⟩
    obtain ⟨A3, c3, rfl, _, _, r3⟩ := (o3.below b4).shapeN (n := n + 8) (by rw [List.length_append, be_length, Hl.out])
    obtain ⟨A4, c4, rfl, _, _, r4⟩ := o4.shapeN (n := 8) (be_length _ _)
    go_wp2_with fail
    refine (behind_yes A3 A1 A A4 c3 n c1 c 8 c4 b _ w4 r3 (((r1.below b2).below b3).below b4) hc1 hm1 ((((hb.below b1).below b2).below b3).below b4) r4 (by omega) (by omega)).mono ?_
    rintro e w5 ⟨rfl, rfl⟩
    go_wp2
    go_ret
    exact ⟨rfl, b1.trans ((b2.trans ((b3.trans (b4.mono b3.size)).mono b2.size)).mono b1.size)⟩

set_option maxHeartbeats 1000000 in
theorem codeTexts_walk (A : Option Addr) (n c : Nat) (b : List UInt8) (s : ByteArray) (w : World) (hb : Rd w A n b) :
    Calls Try.prog 5 #[.slice A n c, .string s] w (Holds w) := by
  by_cases hn : 262144 < n
  · have hd : decide (262144 < (n : Int)) = true := by simp; omega
    go_enter Try.func5, Try.ntmps5
    go_wp2
    go_ret
    exact ⟨rfl, Below.refl _ _⟩
  have hd : decide (262144 < (n : Int)) = false := by simp; omega
  by_cases hs : 262144 < s.size
  · have hd2 : decide (262144 < (s.size : Int)) = true := by simp; omega
    go_enter Try.func5, Try.ntmps5
    go_wp2
    go_ret
    exact ⟨rfl, Below.refl _ _⟩
  have hd2 : decide (262144 < (s.size : Int)) = false := by simp; omega
  have hl := hb.len
  have Hl := Lib.hid hl
  clear hl
  go_enter Try.func5, Try.ntmps5
  go_wp2_with fail
  refine (lent_any A n c b w hb (by omega)).mono ?_
  rintro e w1 ⟨A1, c1, rfl, hc1, hm1, r1, b1⟩
  rw [Hl.out] at hc1 r1 ⊢
  go_wp2_with fail
  have r1' : Rd w1 A1 n b := by
    have h := r1.take (k := n) (by omega)
    rw [List.take_append_of_le_length (by rw [Hl.out]; omega), List.take_of_length_le (by rw [Hl.out]; omega)] at h
    exact h
  by_cases hy : s.size ≤ 65536
  · refine (putText_yes A1 n c1 b s w1 r1' (by omega) hy).mono ?_
    rintro e w2 ⟨v2, rfl, o2, b2⟩
    go_wp2_with fail
    refine (refText_yes s w2 hy).mono ?_
    rintro e w3 ⟨v3, rfl, o3, b3⟩
    go_wp2_with fail
    refine (puts_any w3).mono ?_
    rintro e w4 ⟨rfl, b4⟩
    rw [List.append_assoc] at o2
    obtain ⟨A2, c2, rfl, _, _, r2⟩ := ((o2.below b3).below b4).shapeN (n := n + (4 + s.size)) (by rw [List.length_append, List.length_append, be_length, Hl.out]; rfl)
    obtain ⟨A3, c3, rfl, _, _, r3⟩ := (o3.below b4).shapeN (n := 4 + s.size) (by rw [List.length_append, be_length]; rfl)
    go_wp2_with fail
    refine (behind_yes A2 A1 A A3 c2 n c1 c (4 + s.size) c3 b _ w4 r2 (((r1.below b2).below b3).below b4) hc1 hm1 ((((hb.below b1).below b2).below b3).below b4) r3 (by omega) (by omega)).mono ?_
    rintro e w5 ⟨rfl, rfl⟩
    go_wp2
    go_ret
    exact ⟨rfl, b1.trans ((b2.trans ((b3.trans (b4.mono b3.size)).mono b2.size)).mono b1.size)⟩
  · refine (putText_no _ s w1 (by omega)).mono ?_
    rintro e w2 ⟨rfl, rfl⟩
    go_wp2_with fail
    refine (refText_no s w1 (by omega)).mono ?_
    rintro e w3 ⟨rfl, rfl⟩
    go_wp2_with fail
    refine (puts_any w1).mono ?_
    rintro e w4 ⟨rfl, b4⟩
    go_wp2_with fail
    refine (behind_no A1 A none n c1 c 0 0 b 2 w4 (r1.below b4) hc1 hm1 ((hb.below b1).below b4) (.inr rfl)).mono ?_
    rintro e w5 ⟨rfl, rfl⟩
    go_wp2
    go_ret
    exact ⟨rfl, b1.trans (b4.mono b1.size)⟩
end Go.Proofs.Ytllbebbmnjojgaa

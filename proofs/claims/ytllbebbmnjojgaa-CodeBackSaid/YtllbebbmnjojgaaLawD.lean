/-
  The walk of the law CodeBack.
-/
import Derived.Test.YtllbebbmnjojgaaLawC
import Derived.Test.YtllbebbmnjojgaaPlain
namespace Go.Proofs.Ytllbebbmnjojgaa
open Go.RowKit

set_option maxHeartbeats 4000000 in
theorem codeBack_no1 (n i : Int) (s : ByteArray) (A : Option Addr) (m c : Nat) (w : World) (hs : s.size ≤ 262144) (hm : m ≤ 262144) (hn : n < 0 ∨ 2147483647 < n) :
    Calls Try.prog 7 #[.int .i64 n, .int .i64 i, .string s, .slice A m c] w (Holds w) := by
  have hd1 : decide (262144 < (s.size : Int)) = false := by simp; omega
  have hd2 : decide (262144 < (m : Int)) = false := by simp; omega
  go_enter Try.func7, Try.ntmps7
  go_wp2_with fail
  refine (putNumber_no _ n w hn).mono ?_
  rintro e w1 ⟨rfl, rfl⟩
  go_wp2_with fail
  refine (putInt_any none 0 0 [] i w Rd.nil (by omega)).mono ?_
  rintro e w1 ⟨v1, rfl, o1, b1⟩
  obtain ⟨A1, c1, rfl, hc1, _, r1⟩ := o1.shapeN (n := 8) (be_length _ _)
  by_cases hs2 : s.size ≤ 65536
  · go_wp2_with fail
    refine (putText_yes A1 8 c1 _ s w1 r1 (by omega) hs2).mono ?_
    rintro e w2 ⟨v2, rfl, o2, b2⟩
    go_wp2_with fail
    refine (puts_any w2).mono ?_
    rintro e w3 ⟨rfl, b3⟩
    go_wp2_with fail
    refine (reads_any w3).mono ?_
    rintro e w4 ⟨rfl, b4⟩
    have hb : Below w.heap.size w w4 := b1.trans ((b2.trans ((b3.trans (b4.mono b3.size)).mono b2.size)).mono b1.size)
    rcases hn with hn | hn
    · have hd3 : decide (n < 0) = true := by simp; omega
      go_wp2
      go_ret
      exact ⟨rfl, hb⟩
    · have hd3 : decide (n < 0) = false := by simp; omega
      have hd4 : decide (2147483647 < n) = true := by simp; omega
      go_wp2
      go_ret
      exact ⟨rfl, hb⟩
  · go_wp2_with fail
    refine (putText_no _ s w1 (by omega)).mono ?_
    rintro e w2 ⟨rfl, rfl⟩
    go_wp2_with fail
    refine (puts_any w1).mono ?_
    rintro e w3 ⟨rfl, b3⟩
    go_wp2_with fail
    refine (reads_any w3).mono ?_
    rintro e w4 ⟨rfl, b4⟩
    have hb : Below w.heap.size w w4 := b1.trans ((b3.trans (b4.mono b3.size)).mono b1.size)
    rcases hn with hn | hn
    · have hd3 : decide (n < 0) = true := by simp; omega
      go_wp2
      go_ret
      exact ⟨rfl, hb⟩
    · have hd3 : decide (n < 0) = false := by simp; omega
      have hd4 : decide (2147483647 < n) = true := by simp; omega
      go_wp2
      go_ret
      exact ⟨rfl, hb⟩

set_option maxHeartbeats 4000000 in
theorem codeBack_no2 (n i : Int) (s : ByteArray) (A : Option Addr) (m c : Nat) (w : World) (hs : s.size ≤ 262144) (hm : m ≤ 262144) (h0 : 0 ≤ n) (h1 : n ≤ 2147483647) (hs2 : 65536 < s.size) :
    Calls Try.prog 7 #[.int .i64 n, .int .i64 i, .string s, .slice A m c] w (Holds w) := by
  have hd1 : decide (262144 < (s.size : Int)) = false := by simp; omega
  have hd2 : decide (262144 < (m : Int)) = false := by simp; omega
  have hd3 : decide (n < 0) = false := by simp; omega
  have hd4 : decide (2147483647 < n) = false := by simp; omega
  have hd5 : decide (65536 < (s.size : Int)) = true := by simp; omega
  go_enter Try.func7, Try.ntmps7
  go_wp2_with fail
  refine (putNumber_yes none 0 0 [] n w Rd.nil (by omega) h0 h1).mono ?_
  rintro e w1 ⟨v1, rfl, o1, b1⟩
  rw [List.nil_append] at o1
  obtain ⟨A1, c1, rfl, hc1, _, r1⟩ := o1.shapeN (n := 4) (be_length _ _)
  go_wp2_with fail
  refine (putInt_any A1 4 c1 _ i w1 r1 (by omega)).mono ?_
  rintro e w2 ⟨v2, rfl, o2, b2⟩
  go_wp2_with fail
  refine (putText_no _ s w2 hs2).mono ?_
  rintro e w3 ⟨rfl, rfl⟩
  go_wp2_with fail
  refine (puts_any w2).mono ?_
  rintro e w3 ⟨rfl, b3⟩
  go_wp2_with fail
  refine (reads_any w3).mono ?_
  rintro e w4 ⟨rfl, b4⟩
  have hb : Below w.heap.size w w4 := b1.trans ((b2.trans ((b3.trans (b4.mono b3.size)).mono b2.size)).mono b1.size)
  go_wp2
  go_ret
  exact ⟨rfl, hb⟩

set_option maxHeartbeats 4000000 in
theorem codeBack_yes (n i : Int) (s : ByteArray) (A : Option Addr) (m c : Nat) (more : List UInt8) (w : World) (hm : m ≤ 262144) (h0 : 0 ≤ n) (h1 : n ≤ 2147483647) (hi : -9223372036854775808 ≤ i ∧ i ≤ 9223372036854775807) (hs2 : s.size ≤ 65536) (hmore : Rd w A m more) :
    Calls Try.prog 7 #[.int .i64 n, .int .i64 i, .string s, .slice A m c] w (Holds w) := by
  have hd1 : decide (262144 < (s.size : Int)) = false := by simp; omega
  have hd2 : decide (262144 < (m : Int)) = false := by simp; omega
  have Hm := Lib.hid hmore.len
  have Hs : Hid (s.data.toList.length = s.size) := rfl
  have Hi := Lib.hid hi
  clear hi
  go_enter Try.func7, Try.ntmps7
  go_wp2_with fail
  refine (putNumber_yes none 0 0 [] n w Rd.nil (by omega) h0 h1).mono ?_
  rintro e w1 ⟨v1, rfl, o1, b1⟩
  rw [List.nil_append] at o1
  obtain ⟨A1, c1, rfl, hc1, _, r1⟩ := o1.shapeN (n := 4) (be_length _ _)
  clear o1
  go_wp2_with fail
  refine (putInt_any A1 4 c1 _ i w1 r1 (by omega)).mono ?_
  rintro e w2 ⟨v2, rfl, o2, b2⟩
  obtain ⟨A2, c2, rfl, hc2, _, r2⟩ := o2.shapeN (n := 12) (by rw [List.length_append, be_length, be_length])
  clear o2 r1
  go_wp2_with fail
  refine (putText_yes A2 12 c2 _ s w2 r2 (by omega) hs2).mono ?_
  rintro e w3 ⟨v3, rfl, o3, b3⟩
  clear r2
  have hb3 : Below w.heap.size w w3 := b1.trans ((b2.trans (b3.mono b2.size)).mono b1.size)
  have hl3 : (be 4 n.toNat ++ be 8 (u64n i) ++ be 4 s.size ++ s.data.toList).length = 16 + s.size := by simp only [List.length_append, be_length, Hs.out]
  obtain ⟨v4, w4, hap, o4, g4, _⟩ := run_app (P := Try.prog) w2.heap.size 22 22 5 Try.underlying22 Try.infoU8 v3 _ o3 A m c more (hmore.below hb3) (by rw [hl3]; omega) b3.size
  have hb4 : Below w.heap.size w w4 := hb3.grown g4 hb3.size fun k hk => by have := (o3.lt k hk).1; have := b2.size; have := b1.size; omega
  have e4 : be 4 n.toNat ++ be 8 (u64n i) ++ be 4 s.size ++ s.data.toList ++ more = be 4 n.toNat ++ (be 8 (u64n i) ++ (be 4 s.data.toList.length ++ (s.data.toList ++ more))) := by
    simp only [List.append_assoc]; rfl
  rw [e4] at o4
  obtain ⟨A4, c4, rfl, hc4, _, r4⟩ := o4.shapeN (n := 16 + s.size + m) (by simp only [List.length_append, be_length, Hm.out, Hs.out]; omega)
  clear o4 o3 e4 hl3
  have E1 := Lib.hid (rnum_put n.toNat (by omega) (be 8 (u64n i) ++ (be 4 s.data.toList.length ++ (s.data.toList ++ more))))
  have E2 := Lib.hid (rint_put i Hi.out.1 Hi.out.2 (be 4 s.data.toList.length ++ (s.data.toList ++ more)))
  have E3 := Lib.hid (rtext_put s.data.toList (by rw [Hs.out]; omega) more)
  have D1 := Lib.hid (drop_be 4 n.toNat (be 8 (u64n i) ++ (be 4 s.data.toList.length ++ (s.data.toList ++ more))))
  have D2 := Lib.hid (drop_be 8 (u64n i) (be 4 s.data.toList.length ++ (s.data.toList ++ more)))
  have D3 : Hid ((be 4 s.data.toList.length ++ (s.data.toList ++ more)).drop (4 + s.data.toList.length) = more) := by
    show _ = _
    rw [← List.drop_drop, drop_be, List.drop_append_of_le_length (Nat.le_refl _), List.drop_length, List.nil_append]
  generalize be 8 (u64n i) ++ (be 4 s.data.toList.length ++ (s.data.toList ++ more)) = L1 at *
  generalize be 4 s.data.toList.length ++ (s.data.toList ++ more) = L2 at *
  generalize be 4 n.toNat ++ L1 = L0 at *
  go_wp2_with (at_builtin; refine wpList_append_run hap rfl _ _ rfl rfl rfl rfl ?_)
  clear hap g4
  refine (new_any A4 _ c4 _ w4 r4 (by omega)).mono ?_
  rintro e w5 ⟨g, rfl, hg, _, q5, b5⟩
  have hb5 : Below w.heap.size w w5 := hb4.trans (b5.mono hb4.size)
  have hgw : w.heap.size ≤ g := Nat.le_trans hb4.size hg
  clear r4 b5 hg
  go_wp2_with fail
  refine (number_any g L0 w5 q5).mono ?_
  rintro e w6 ⟨rfl, q6, s6⟩
  rw [E1.out] at q6 ⊢
  rw [D1.out] at q6
  have hb6 := below_step hb5 s6 hb5.size hgw
  clear s6 q5
  go_wp2_with fail
  refine (int_any g L1 w6 q6).mono ?_
  rintro e w7 ⟨rfl, q7, s7⟩
  rw [E2.out] at q7 ⊢
  rw [D2.out] at q7
  have hb7 := below_step hb6 s7 hb6.size hgw
  clear s7 q6
  go_wp2_with fail
  refine (text_any g L2 w7 q7).mono ?_
  rintro e w8 ⟨rfl, q8, s8⟩
  rw [E3.out] at q8 ⊢
  rw [D3.out] at q8
  rw [show (ByteArray.mk s.data.toList.toArray) = s from rfl]
  have hb8 := below_step hb7 s8 hb7.size hgw
  clear s8 q7
  go_wp2_with fail
  refine (puts_any w8).mono ?_
  rintro e w9 ⟨rfl, b9⟩
  have q9 := q8.below b9
  have hb9 : Below w.heap.size w w9 := hb8.trans (b9.mono hb8.size)
  clear b9 q8
  go_wp2_with fail
  refine (reads_any w9).mono ?_
  rintro e w10 ⟨rfl, b10⟩
  have q10 := q9.below b10
  have hb10 : Below w.heap.size w w10 := hb9.trans (b10.mono hb9.size)
  clear b10 q9
  have hn : (n == ((n.toNat : Nat) : Int)) = true := by simp; omega
  have hn2 : ((n.toNat : Nat) : Int) = n := by omega
  go_wp2_with fail
  refine (left_any g more w10 q10).mono ?_
  rintro e w11 ⟨rfl, rfl⟩
  rw [Hm.out]
  go_wp2
  go_ret
  exact ⟨rfl, hb10⟩

theorem codeBack_walk (n i : Int) (s : ByteArray) (A : Option Addr) (m c : Nat) (more : List UInt8) (w : World) (hi : -9223372036854775808 ≤ i ∧ i ≤ 9223372036854775807) (hmore : Rd w A m more) :
    Calls Try.prog 7 #[.int .i64 n, .int .i64 i, .string s, .slice A m c] w (Holds w) := by
  by_cases hs : 262144 < s.size
  · have hd1 : decide (262144 < (s.size : Int)) = true := by simp; omega
    go_enter Try.func7, Try.ntmps7
    go_wp2
    go_ret
    exact ⟨rfl, Below.refl _ _⟩
  by_cases hm : 262144 < m
  · have hd1 : decide (262144 < (s.size : Int)) = false := by simp; omega
    have hd2 : decide (262144 < (m : Int)) = true := by simp; omega
    go_enter Try.func7, Try.ntmps7
    go_wp2
    go_ret
    exact ⟨rfl, Below.refl _ _⟩
  by_cases hn : n < 0 ∨ 2147483647 < n
  · exact codeBack_no1 n i s A m c w (by omega) (by omega) hn
  by_cases hs2 : 65536 < s.size
  · exact codeBack_no2 n i s A m c w (by omega) (by omega) (by omega) (by omega) hs2
  exact codeBack_yes n i s A m c more w (by omega) (by omega) (by omega) hi (by omega) hmore
end Go.Proofs.Ytllbebbmnjojgaa

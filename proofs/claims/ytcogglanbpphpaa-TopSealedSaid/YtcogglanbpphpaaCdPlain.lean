/-
  Plain mathematics: what is put is read, and what is read and put anew is the same bytes.
-/
import Derived.Test.YtcogglanbpphpaaCdReader
namespace Go.Proofs.Ytcogglanbpphpaa
open Go.RowKit

theorem ofbe_be4 (u : Nat) (h : u < 4294967296) : ofbe (be 4 u) = u := by
  rw [be4]; simp [ofbe]; omega
theorem ofbe_be8 (u : Nat) (h : u < 18446744073709551616) : ofbe (be 8 u) = u := by
  rw [be8]; simp [ofbe]; omega
theorem take_be (s u : Nat) (r : List UInt8) : (be s u ++ r).take s = be s u := by
  rw [List.take_append_of_le_length (by rw [be_length]; omega), List.take_of_length_le (by rw [be_length]; omega)]
theorem drop_be (s u : Nat) (r : List UInt8) : (be s u ++ r).drop s = r := by
  rw [List.drop_append_of_le_length (by rw [be_length]; omega), List.drop_of_length_le (by rw [be_length]; omega), List.nil_append]
theorem rnum_put (u : Nat) (h : u ≤ 2147483647) (r : List UInt8) : rnum (be 4 u ++ r) = ((u : Int), 4, 0) := by
  have h1 : ¬ (be 4 u ++ r).length < 4 := by rw [List.length_append, be_length]; omega
  have h2 : ¬ 127 < ((be 4 u ++ r).getD 0 0).toNat := by
    rw [be4]; simp; omega
  rw [rnum, if_neg h1, if_neg h2, take_be, ofbe_be4 u (by omega)]
theorem rint_put (i : Int) (h0 : -9223372036854775808 ≤ i) (h1 : i ≤ 9223372036854775807) (r : List UInt8) : rint (be 8 (u64n i) ++ r) = (i, 8, 0) := by
  have h2 : ¬ (be 8 (u64n i) ++ r).length < 8 := by rw [List.length_append, be_length]; omega
  rw [rint, if_neg h2, take_be, ofbe_be8 _ (u64n_lt i), i64_u64n i h0 h1]
theorem rtext_put (s : List UInt8) (h : s.length ≤ 65536) (r : List UInt8) : rtext (be 4 s.length ++ (s ++ r)) = (s, 4 + s.length, 0) := by
  have h1 := rnum_put s.length (by omega) (s ++ r)
  have h2 : ¬ (65536 : Int) < (s.length : Int) := by omega
  have h3 : ¬ (((be 4 s.length ++ (s ++ r)).length : Int) - 4) < (s.length : Int) := by simp only [List.length_append, be_length]; omega
  rw [rtext, h1]
  simp only
  rw [if_neg (by simp), if_neg h2, if_neg h3, drop_be, Int.toNat_natCast, List.take_append_of_le_length (by omega), List.take_of_length_le (by omega)]

theorem be_ofbe4 (l : List UInt8) (h : l.length = 4) : be 4 (ofbe l) = l := by
  match l, h with
  | [a, b, c, d], _ =>
    have ha := a.toNat_lt; have hb := b.toNat_lt; have hc := c.toNat_lt; have hd := d.toNat_lt
    rw [be4]
    simp only [ofbe, List.foldl_cons, List.foldl_nil]
    have e : ∀ (x : UInt8) (n : Nat), n % 256 = x.toNat → UInt8.ofNat n = x := fun x n hn => UInt8.toNat_inj.1 (by simpa using hn)
    rw [e a _ (by omega), e b _ (by omega), e c _ (by omega), e d _ (by omega)]
theorem be_ofbe8 (l : List UInt8) (h : l.length = 8) : be 8 (ofbe l) = l := by
  match l, h with
  | [a, b, c, d, a', b', c', d'], _ =>
    have ha := a.toNat_lt; have hb := b.toNat_lt; have hc := c.toNat_lt; have hd := d.toNat_lt
    have ha' := a'.toNat_lt; have hb' := b'.toNat_lt; have hc' := c'.toNat_lt; have hd' := d'.toNat_lt
    rw [be8]
    simp only [ofbe, List.foldl_cons, List.foldl_nil]
    have e : ∀ (x : UInt8) (n : Nat), n % 256 = x.toNat → UInt8.ofNat n = x := fun x n hn => UInt8.toNat_inj.1 (by simpa using hn)
    rw [e a _ (by omega), e b _ (by omega), e c _ (by omega), e d _ (by omega), e a' _ (by omega), e b' _ (by omega), e c' _ (by omega), e d' _ (by omega)]
theorem rnum_one {l : List UInt8} (h : (rnum l).2.2 = 0) : ∃ u : Nat, rnum l = ((u : Int), 4, 0) ∧ u ≤ 2147483647 ∧ be 4 u = l.take 4 ∧ 4 ≤ l.length := by
  have h4 : ¬ l.length < 4 := by intro h4; rw [rnum, if_pos h4] at h; cases h
  have h5 : ¬ 127 < (l.getD 0 0).toNat := by intro h5; rw [rnum, if_neg h4, if_pos h5] at h; cases h
  have h6 : rnum l = ((ofbe (l.take 4) : Int), 4, 0) := by rw [rnum, if_neg h4, if_neg h5]
  refine ⟨_, h6, ?_, be_ofbe4 _ (by rw [List.length_take]; omega), by omega⟩
  match l, (show 4 ≤ l.length by omega) with
  | a :: b :: c :: d :: r, _ =>
    have ha := a.toNat_lt; have hb := b.toNat_lt; have hc := c.toNat_lt; have hd := d.toNat_lt
    simp only [List.getD_cons_zero] at h5
    simp [ofbe]
    omega
theorem u64n_wrap' (u : Nat) (h : u < 18446744073709551616) : u64n (wrap64 (u : Int)) = u := by
  unfold u64n wrap64; omega
theorem rint_one {l : List UInt8} (h : (rint l).2.2 = 0) : (rint l).2.1 = 8 ∧ be 8 (u64n (rint l).1) = l.take 8 ∧ 8 ≤ l.length := by
  have h4 : ¬ l.length < 8 := by intro h4; rw [rint, if_pos h4] at h; cases h
  rw [rint, if_neg h4]
  have hl : (l.take 8).length = 8 := by rw [List.length_take]; omega
  have hu : ofbe (l.take 8) < 18446744073709551616 := by
    have h1 := ofbe_lt (l.take 8)
    rw [hl] at h1
    exact h1
  refine ⟨rfl, ?_, by omega⟩
  simp only
  rw [u64n_wrap' _ hu, be_ofbe8 _ hl]
theorem rtext_one {l : List UInt8} (h : (rtext l).2.2 = 0) : ∃ s : List UInt8, rtext l = (s, 4 + s.length, 0) ∧ s.length ≤ 65536 ∧ be 4 s.length ++ s = l.take (4 + s.length) ∧ 4 + s.length ≤ l.length := by
  have h0 : (rnum l).2.2 = 0 := by
    rcases Decidable.em ((rnum l).2.2 = 0) with h0 | h0
    · exact h0
    · rw [rtext, if_pos h0] at h; exact h
  obtain ⟨u, hu, hle, hbe, h4⟩ := rnum_one h0
  have h1 : ¬ (65536 : Int) < (u : Int) := by
    intro h1; rw [rtext, if_neg (by simpa using h0), hu, if_pos h1] at h; cases h
  have h2 : ¬ ((l.length : Int) - 4) < (u : Int) := by
    intro h2; rw [rtext, if_neg (by simpa using h0), hu, if_neg h1, if_pos h2] at h; cases h
  have hs : ((l.drop 4).take u).length = u := by rw [List.length_take, List.length_drop]; omega
  refine ⟨(l.drop 4).take u, ?_, by omega, ?_, by omega⟩
  · rw [rtext, if_neg (by simpa using h0), hu, if_neg h1, if_neg h2, hs, Int.toNat_natCast]
  · rw [hs, hbe, List.take_add]
end Go.Proofs.Ytcogglanbpphpaa

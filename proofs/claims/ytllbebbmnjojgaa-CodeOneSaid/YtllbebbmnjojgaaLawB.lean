/-
  The document's own answers on reading, and the walks of the laws on readers.
-/
import Derived.Test.YtllbebbmnjojgaaReader
namespace Go.Proofs.Ytllbebbmnjojgaa
open Go.RowKit

theorem ofbe4 (a b c d : UInt8) (l : List UInt8) : ofbe ((a :: b :: c :: d :: l).take 4) = 16777216 * a.toNat + 65536 * b.toNat + 256 * c.toNat + d.toNat := by
  simp [ofbe]; omega
theorem four_of {l : List UInt8} (h : 4 ≤ l.length) : ∃ a b c d r, l = a :: b :: c :: d :: r := by
  match l, h with
  | a :: b :: c :: d :: r, _ => exact ⟨a, b, c, d, r, rfl⟩

/-- What the document's own reading answers. -/
def Tells (w : World) (v : Value) (k : Nat) (er : Int) (e : Ending) (w' : World) : Prop := e = .returned (.tuple #[v, .int .i64 (k : Int), .int .i64 er]) ∧ Below w.heap.size w w'
theorem below_drewN {B : Nat} {a w : World} (h : Below B a w) (n : Nat) : Below B a (w.drewN n) := ⟨h.os, h.tape, h.output, h.size, h.block⟩

set_option maxHeartbeats 1000000 in
theorem refReadNumber_any (A : Option Addr) (n c : Nat) (l : List UInt8) (w : World) (hl : Rd w A n l) :
    Calls Try.prog 23 #[.slice A n c] w (Tells w (.int .i64 (rnum l).1) (rnum l).2.1 (rnum l).2.2) := by
  have hlen := hl.len
  by_cases h4 : l.length < 4
  · rw [rnum, if_pos h4]
    have hn : n < 4 := by omega
    clear hlen h4
    go_enter Try.func23, Try.ntmps23
    go_wp2
    go_ret3
    exact ⟨rfl, Below.refl _ _⟩
  · obtain ⟨x0, x1, x2, x3, r, rfl⟩ := four_of (show 4 ≤ l.length by omega)
    have hn : 4 ≤ n := by omega
    obtain ⟨b, off, rfl, _, hc⟩ := hl.at_ (by omega)
    have c0 := hc 0 x0 rfl
    have c1 := hc 1 x1 rfl
    have c2 := hc 2 x2 rfl
    have c3 := hc 3 x3 rfl
    rw [Nat.add_zero] at c0
    have b0 := x0.toNat_lt
    have b1 := x1.toNat_lt
    have b2 := x2.toNat_lt
    have b3 := x3.toNat_lt
    rw [rnum, if_neg h4]
    clear hlen h4 hl hc
    by_cases h5 : 127 < x0.toNat
    · rw [if_pos (by simpa using h5)]
      go_enter Try.func23, Try.ntmps23
      go_wp2
      go_ret3
      exact ⟨rfl, Below.refl _ _⟩
    · rw [if_neg (by simpa using h5), ofbe4]
      go_enter Try.func23, Try.ntmps23
      go_wp2
      go_quiet (fail)
      go_wp2
      go_ret3
      exact ⟨by congr 1, below_drewN (Below.refl _ _) _⟩

set_option maxHeartbeats 1000000 in
theorem refReadInt_any (A : Option Addr) (n c : Nat) (l : List UInt8) (w : World) (hl : Rd w A n l) :
    Calls Try.prog 25 #[.slice A n c] w (Tells w (.int .i64 (rint l).1) (rint l).2.1 (rint l).2.2) := by
  have hlen := hl.len
  by_cases h4 : l.length < 8
  · rw [rint, if_pos h4]
    have hn : n < 8 := by omega
    clear hlen h4
    go_enter Try.func25, Try.ntmps25
    go_wp2
    go_ret3
    exact ⟨rfl, Below.refl _ _⟩
  · rw [rint, if_neg h4]
    have hn : 8 ≤ n := by omega
    have Hl := Lib.hid hlen
    clear hlen h4
    go_enter Try.func25, Try.ntmps25
    go_wp2_with fail
    go_loop [5, 6] (fun v i => ∃ k : Nat, k ≤ 8 ∧ i = .int .i64 k ∧ v = .int .u64 (ofbe (l.take k))) (fun _ i => 8 - (intOf i).toNat)
    case atStart => exact ⟨0, Nat.zero_le _, rfl, rfl⟩
    case round =>
      obtain ⟨k, hk, rfl, rfl⟩ := hrel
      by_cases hlt : k < 8
      · obtain ⟨b, off, x, rfl, _, hx, hc⟩ := hl.cell (j := k) (by omega)
        have hU : ofbe (l.take k) < 72057594037927936 := by
          have h1 := ofbe_lt (l.take k)
          have h2 : 256 ^ (l.take k).length ≤ 256 ^ 7 := Nat.pow_le_pow_right (by omega) (by rw [List.length_take]; omega)
          omega
        have hsn : ofbe (l.take (k + 1)) = ofbe (l.take k) * 256 + x.toNat := by
          rw [List.take_add_one, hx]
          exact ofbe_snoc _ _
        have Hsn := Lib.hid hsn
        clear hx hsn
        have hx256 : x.toNat < 256 := x.toNat_lt
        have hkn : (k : Int) < n := by omega
        go_wp2
        refine ⟨⟨k + 1, by omega, by go_num, ?_⟩, by simp [intOf]; omega⟩
        rw [Hsn.out]
        congr 1
      · obtain rfl : k = 8 := by omega
        go_wp2
        go_ret3
        exact ⟨rfl, Below.refl _ _⟩

set_option maxHeartbeats 1000000 in
theorem refReadText_any (A : Option Addr) (n c : Nat) (l : List UInt8) (w : World) (hl : Rd w A n l) (hnc : n ≤ c) (hcm : c ≤ maxLen) :
    Calls Try.prog 27 #[.slice A n c] w (Tells w (.string ⟨(rtext l).1.toArray⟩) (rtext l).2.1 (rtext l).2.2) := by
  unfold maxLen at hcm
  have hlen := hl.len
  have Hc := Lib.hid (refReadNumber_any A n c l w hl)
  by_cases h0 : (rnum l).2.2 = 0
  · obtain ⟨u, hu, hlt, -, h4, -⟩ := rnum_ok l h0
    rw [rtext, if_neg (by simpa using h0), hu]
    rw [hu] at Hc
    clear hu h0
    by_cases h7 : 65536 < u
    · rw [if_pos (show (65536 : Int) < (u : Int) by omega)]
      go_enter Try.func27, Try.ntmps27
      go_wp2_with fail
      refine Calls.mono Hc.out ?_
      rintro e w' ⟨rfl, hb⟩
      go_wp2
      go_ret3
      exact ⟨rfl, hb⟩
    · rw [if_neg (show ¬ (65536 : Int) < (u : Int) by omega)]
      by_cases h8 : l.length < 4 + u
      · rw [if_pos (show (l.length : Int) - 4 < (u : Int) by omega)]
        have h9 : (n : Int) - 4 < u := by omega
        have h10 : 4 ≤ n := by omega
        clear hlen
        go_enter Try.func27, Try.ntmps27
        go_wp2_with fail
        refine Calls.mono Hc.out ?_
        rintro e w' ⟨rfl, hb⟩
        go_wp2
        go_ret3
        exact ⟨rfl, hb⟩
      · rw [if_neg (show ¬ (l.length : Int) - 4 < (u : Int) by omega)]
        have h9 : ¬ (n : Int) - 4 < u := by omega
        have h10 : 4 + u ≤ n := by omega
        have hl2 := ((hl.cut (k := 4) (cap := c) (by omega) hnc).take (k := u) (by omega))
        clear hlen
        by_cases hc4 : c = 4
        · subst hc4
          obtain rfl : u = 0 := by omega
          rw [if_pos rfl] at hl2
          go_enter Try.func27, Try.ntmps27
          go_wp2_with fail
          refine Calls.mono Hc.out ?_
          rintro e w' ⟨rfl, hb⟩
          have k1 := (hl2.below hb).conv (P := Try.prog) 0 22 5 9 Try.underlying22 Try.underlying5 Try.underlying9
          go_wp2
          go_ret3
          exact ⟨rfl, hb⟩
        · rw [if_neg hc4] at hl2
          obtain ⟨b, off, rfl, _, _⟩ := hl.at_ (by omega)
          have hl3 : Rd w (some ⟨b, off + 4, none⟩) u ((l.drop 4).take u) := ⟨hl2.len, fun h => hl2.at_ h⟩
          clear hl2
          go_enter Try.func27, Try.ntmps27
          go_wp2_with fail
          refine Calls.mono Hc.out ?_
          rintro e w' ⟨rfl, hb⟩
          have k1 := (hl3.below hb).conv (P := Try.prog) (c - 4) 22 5 9 Try.underlying22 Try.underlying5 Try.underlying9
          go_wp2
          go_ret3
          exact ⟨by rw [Int.natCast_add]; rfl, hb⟩
  · rw [rtext, if_pos h0]
    have h1 : ((rnum l).2.2 != 0) = true := by simpa using h0
    have h2 : ((rnum l).2.2 == 0) = false := by simpa using h0
    generalize (rnum l).2.2 = er at *
    generalize (rnum l).1 = v at *
    generalize (rnum l).2.1 = k at *
    clear hlen
    go_enter Try.func27, Try.ntmps27
    go_wp2_with fail
    refine Calls.mono Hc.out ?_
    rintro e w' ⟨rfl, hb⟩
    go_wp2
    go_ret3
    exact ⟨rfl, hb⟩
end Go.Proofs.Ytllbebbmnjojgaa

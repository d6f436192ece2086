/-
  The walks of the laws BitsBack and BitsParts: each says true, whatever came in, and nothing that was there is written over.
-/
import Derived.Test.YtjfcgjmiianmkaaDoorBitsLawA
namespace Go.Proofs.YtjfcgjmiianmkaaDoor
open Go.RowKit

theorem back_ok (l : List Bool) (hl : l.length ≤ 4096) : readB ((l.length : Nat) : Int) (bytesL l) = true := by
  have h := (bytesL_bitsOf (n := l.length) (b := bytesL l) (bytesL_length l)).1 (by rw [bitsOf_bytesL])
  exact readB_iff.2 ⟨by omega, by rw [Int.toNat_natCast, bytesL_length], by rw [Int.toNat_natCast]; exact h⟩

set_option maxRecDepth 100000 in
set_option maxHeartbeats 4000000 in
theorem bitsBack_walk (n : Int) (ak aa an : Int) (ao : Bool) (bk ba bn : Int) (bo : Bool) (fr many : Int) (on : Bool) (w : World) (hT : Tab w)
    (ha : aa ≤ 9223372036854775807) (hb : ba ≤ 9223372036854775807) :
    Calls Tryd.prog 8 #[.int .i64 n, .agg #[.int .i64 ak, .int .i64 aa, .int .i64 an, .bool ao], .agg #[.int .i64 bk, .int .i64 ba, .int .i64 bn, .bool bo], .int .i64 fr, .int .i64 many, .bool on] w (Holds w) := by
  obtain ⟨w0, hw0⟩ : ∃ w0, w0 = ((w.alloc (.cells #[.int .i64 ak, .int .i64 aa, .int .i64 an, .bool ao] 31)).alloc (.cells #[.int .i64 bk, .int .i64 ba, .int .i64 bn, .bool bo] 31)) := ⟨_, rfl⟩
  have b0 : Below w.heap.size w w0 := by rw [hw0]; exact ((Below.refl _ _).alloc (Nat.le_refl _) _).alloc (by simp) _
  have xa : Box w0 w.heap.size ak aa an ao := by
    rw [hw0]
    exact (Box.new w).below ((Below.refl _ _).alloc (Nat.le_refl _) _)
  have xb : Box w0 (w.heap.size + 1) bk ba bn bo := by
    rw [hw0]
    have := Box.new (k := bk) (a := ba) (n := bn) (on := bo) (w.alloc (.cells #[.int .i64 ak, .int .i64 aa, .int .i64 an, .bool ao] 31))
    simpa using this
  have hs0 : w.heap.size + 1 < w0.heap.size := Whole.lt xb
  have hT0 := hT.below b0
  by_cases hn : n < 0 ∨ 4096 < n
  · have N := new_no n w0 hn
    clear hn
    go_enter Tryd.func8, Tryd.ntmps8
    go_wp2_with fail
    rw [← hw0]
    clear hw0
    refine N.mono ?_
    rintro e w1 ⟨rfl, rfl⟩
    go_wp2_with fail
    refine (awake_any w0 hT0).mono ?_
    rintro e w1 ⟨rfl, b1⟩
    go_wp2
    go_ret
    exact ⟨rfl, b0.trans (b1.mono b0.size)⟩
  · obtain ⟨z, rfl⟩ : ∃ z : Nat, n = (z : Int) := ⟨n.toNat, by omega⟩
    have hz : z ≤ 4096 := by omega
    clear hn
    go_enter Tryd.func8, Tryd.ntmps8
    go_wp2_with fail
    rw [← hw0]
    clear hw0
    refine (new_yes z w0 hz).mono ?_
    rintro e w1 ⟨g, h, rfl, m1, hg, hh, b1⟩
    have hT1 := hT0.below b1
    have hlt0 := hT0.lt
    have xa1 := xa.below b1
    have xb1 := xb.below b1
    clear xa xb
    have ca1 := xa1.c1
    have ca2 := xa1.c2
    have ca3 := xa1.c3
    go_wp2_with fail
    refine (put_any g h _ aa an ao w1 m1 ha).mono ?_
    rintro e w2 ⟨rfl, m2, g2⟩
    have xb2 := xb1.grown g2 (by omega)
    have hT2 := hT1.beside g2 (by omega)
    clear ca1 ca2 ca3 xa1 xb1 m1
    have cb1 := xb2.c1
    have cb2 := xb2.c2
    have cb3 := xb2.c3
    go_wp2_with fail
    refine (put_any g h _ ba bn bo w2 m2 hb).mono ?_
    rintro e w3 ⟨rfl, m3, g3⟩
    have hT3 := hT2.beside g3 (by omega)
    have b03 : Below w.heap.size w w3 := below_grown (below_grown (b0.trans (b1.mono b0.size)) g2 (Nat.le_trans b0.size b1.size) (by omega)) g3 (Nat.le_trans b0.size (Nat.le_trans b1.size g2.size)) (by omega)
    clear cb1 cb2 cb3 xb2 m2
    obtain ⟨l, hl⟩ : ∃ l, l = putV (putV (List.replicate z false) aa an ao) ba bn bo := ⟨_, rfl⟩
    have hlz : l.length = z := by rw [hl, putV_length, putV_length, List.length_replicate]
    rw [← hl] at m3
    clear hl
    have Hlz := Lib.hid hlz
    clear hlz
    go_wp2_with fail
    refine (bytes_any g h l w3 m3).mono ?_
    rintro e w4 ⟨v4, rfl, o4, b4⟩
    obtain ⟨A4, c4, rfl, hc4, hm4, r4⟩ := o4.shape
    have hok := back_ok l (by rw [Hlz.out]; exact hz)
    rw [Hlz.out] at hok
    have R := read_yes z A4 _ c4 (bytesL l) w4 r4 hok
    have hbl := bitsOf_bytesL l
    rw [Hlz.out] at hbl
    rw [hbl] at R
    have m4 := m3.below b4
    have hT4 := hT3.below b4
    have b04 := b03.trans (b4.mono b03.size)
    obtain ⟨k4, hk4⟩ : ∃ k4, k4 = (bytesL l).length := ⟨_, rfl⟩
    rw [← hk4] at R ⊢
    clear hk4 hbl hok m3 r4 o4 hc4 hm4
    go_wp2_with fail
    refine R.mono ?_
    rintro e w5 ⟨g2', h2', rfl, x5, _, _, b5⟩
    have m5 := m4.below b5
    have hT5 := hT4.below b5
    have b05 := b04.trans (b5.mono b04.size)
    clear R m4
    go_wp2_with fail
    refine (get_any g h l fr w5 m5).mono ?_
    rintro e w6 ⟨rfl, rfl⟩
    go_wp2_with fail
    refine (get_any g2' h2' l fr w5 x5).mono ?_
    rintro e w6 ⟨rfl, rfl⟩
    obtain ⟨F, hF⟩ : ∃ F, F = getE l fr := ⟨_, rfl⟩
    obtain ⟨X, hX⟩ : ∃ X, X = getB l fr := ⟨_, rfl⟩
    rw [← hF, ← hX]
    clear hF hX
    go_wp2_with fail
    refine (awake_any w5 hT5).mono ?_
    rintro e w6 ⟨rfl, b6⟩
    have m6 := m5.below b6
    have x6 := x5.below b6
    have hT6 := hT5.below b6
    have b06 := b05.trans (b6.mono b05.size)
    obtain ⟨C, hC⟩ : ∃ C, C = countL l := ⟨_, rfl⟩
    have N1 := count_any g2' h2' l w6 x6
    have N2 := count_any g h l w6 m6
    rw [← hC] at N1 N2
    obtain ⟨R, hR⟩ : ∃ R, R = runL l fr many on := ⟨_, rfl⟩
    have R1 := run_any g2' h2' l fr many on w6 x6 hT6
    have R2 := run_any g h l fr many on w6 m6 hT6
    rw [← hR] at R1 R2
    clear hC hR
    go_wp2_with fail
    refine N1.mono ?_
    rintro e w7 ⟨rfl, rfl⟩
    go_wp2_with fail
    refine N2.mono ?_
    rintro e w7 ⟨rfl, rfl⟩
    clear N1 N2
    go_wp2_with fail
    refine R1.mono ?_
    rintro e w7 ⟨rfl, rfl⟩
    go_wp2_with fail
    refine R2.mono ?_
    rintro e w7 ⟨rfl, rfl⟩
    clear R1 R2
    go_wp2
    go_ret
    exact ⟨rfl, b06⟩
end Go.Proofs.YtjfcgjmiianmkaaDoor

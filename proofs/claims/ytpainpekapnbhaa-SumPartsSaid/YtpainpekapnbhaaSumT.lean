/-
  The document's rows for layer 2, as the statements ask them: sums, seals.
-/
import Derived.Test.YtpainpekapnbhaaSumC
namespace Go.Proofs.Ytpainpekapnbhaa
open Go.RowKit

theorem nine_sum : sumOf [49, 50, 51, 52, 53, 54, 55, 56, 57] = 3421780262#32 := by decide +kernel
theorem four_nine : crc (sumOf [49, 50, 51, 52]) [53, 54, 55, 56, 57] = 3421780262#32 := by decide +kernel

set_option maxHeartbeats 1000000 in
theorem sums_any (w : World) : Calls Try.prog 13 #[] w (Holds w) := by
  have r1 : Rd (w.alloc (.cells #[.int .u8 49, .int .u8 50, .int .u8 51, .int .u8 52, .int .u8 53, .int .u8 54, .int .u8 55, .int .u8 56, .int .u8 57] 5 (9, 10))) (some ⟨w.heap.size, 0, none⟩) 9 [49, 50, 51, 52, 53, 54, 55, 56, 57] :=
    Rd.mark (U := 5) (l := [49, 50, 51, 52, 53, 54, 55, 56, 57]) _ _ rfl
  have a1 : Below w.heap.size w (w.alloc (.cells #[.int .u8 49, .int .u8 50, .int .u8 51, .int .u8 52, .int .u8 53, .int .u8 54, .int .u8 55, .int .u8 56, .int .u8 57] 5 (9, 10))) := (Below.refl _ _).alloc (Nat.le_refl _) _
  have kc := fun (w : World) (C : Array Value) (n c : Nat) => Lib.run_convert_bytes_const (P := Try.prog) w 22 5 C n c Try.underlying22 Try.underlying5
  go_enter Try.func13, Try.ntmps13
  go_wp2_with fail
  refine (sum_any _ 9 9 _ _ r1 (by simp [maxLen])).mono ?_
  rintro e w1 ⟨rfl, b1⟩
  rw [nine_sum]
  have c1 := a1.trans (b1.mono a1.size)
  clear r1 a1 b1
  have r2 : Rd (w1.alloc (.cells #[.int .u8 49, .int .u8 50, .int .u8 51, .int .u8 52] 5 (4, 5))) (some ⟨w1.heap.size, 0, none⟩) 4 [49, 50, 51, 52] :=
    Rd.mark (U := 5) (l := [49, 50, 51, 52]) _ _ rfl
  have a2 : Below w1.heap.size w1 (w1.alloc (.cells #[.int .u8 49, .int .u8 50, .int .u8 51, .int .u8 52] 5 (4, 5))) := (Below.refl _ _).alloc (Nat.le_refl _) _
  go_wp2_with fail
  refine (sum_any _ 4 4 _ _ r2 (by simp [maxLen])).mono ?_
  rintro e w2 ⟨rfl, b2⟩
  have c2 := c1.trans ((a2.trans (b2.mono a2.size)).mono c1.size)
  clear r2 a2 b2 c1
  have r3 : Rd (w2.alloc (.cells #[.int .u8 53, .int .u8 54, .int .u8 55, .int .u8 56, .int .u8 57] 5 (5, 6))) (some ⟨w2.heap.size, 0, none⟩) 5 [53, 54, 55, 56, 57] :=
    Rd.mark (U := 5) (l := [53, 54, 55, 56, 57]) _ _ rfl
  have a3 : Below w2.heap.size w2 (w2.alloc (.cells #[.int .u8 53, .int .u8 54, .int .u8 55, .int .u8 56, .int .u8 57] 5 (5, 6))) := (Below.refl _ _).alloc (Nat.le_refl _) _
  go_wp2_with fail
  refine (more_yes _ _ 5 5 _ _ r3 (by simp [maxLen])).mono ?_
  rintro e w3 ⟨rfl, b3⟩
  rw [four_nine]
  have c3 := c2.trans ((a3.trans (b3.mono a3.size)).mono c2.size)
  clear r3 a3 b3 c2
  go_wp2_with fail
  refine (more_no (-1) (.slice none 0 0) w3 (by omega)).mono ?_
  rintro e w4 ⟨rfl, rfl⟩
  go_wp2
  go_ret
  exact ⟨rfl, c3⟩

theorem seal_none : sealOf [] = [0, 0, 0, 0] := by decide +kernel

set_option maxHeartbeats 1000000 in
theorem seals_any (w : World) : Calls Try.prog 20 #[] w (Holds w) := by
  have h0 := seal_any none 0 0 [] w Rd.nil (by omega)
  rw [show ([] : List UInt8) ++ be 4 (sumOf []).toNat = [0, 0, 0, 0] from seal_none] at h0
  go_enter Try.func20, Try.ntmps20
  go_wp2_with fail
  refine h0.mono ?_
  rintro e w1 ⟨v1, rfl, o1, c1⟩
  clear h0
  obtain ⟨A1, n1, rfl, _, _, r1⟩ := o1.shapeN (n := 4) rfl
  clear o1
  have r2 : Rd (w1.alloc (.cells #[.int .u8 0, .int .u8 0, .int .u8 0, .int .u8 0] 5)) (some ⟨w1.heap.size, 0, none⟩) 4 [0, 0, 0, 0] :=
    Rd.lit (U := 5) (l := [0, 0, 0, 0]) _ rfl (by simp [maxLen])
  have a2 : Below w1.heap.size w1 (w1.alloc (.cells #[.int .u8 0, .int .u8 0, .int .u8 0, .int .u8 0] 5)) := (Below.refl _ _).alloc (Nat.le_refl _) _
  go_wp2_with fail
  refine (open_yes _ 4 4 _ _ r2 (by omega) (by omega) (by simp [maxLen]) (by omega) seal_none).mono ?_
  rintro e w2 ⟨v2, rfl, o2, b2⟩
  clear o2
  have bb2 := a2.trans (b2.mono a2.size)
  have c2 := c1.trans (bb2.mono c1.size)
  have q1 := r1.below bb2
  clear r1 r2 a2 b2 bb2 c1
  have r3 : Rd (w2.alloc (.cells #[.int .u8 1, .int .u8 0, .int .u8 0, .int .u8 0] 5)) (some ⟨w2.heap.size, 0, none⟩) 4 [1, 0, 0, 0] :=
    Rd.lit (U := 5) (l := [1, 0, 0, 0]) _ rfl (by simp [maxLen])
  have a3 : Below w2.heap.size w2 (w2.alloc (.cells #[.int .u8 1, .int .u8 0, .int .u8 0, .int .u8 0] 5)) := (Below.refl _ _).alloc (Nat.le_refl _) _
  go_wp2_with fail
  refine (open_no _ 4 4 _ _ r3 (by omega) (by simp [maxLen]) (by omega) (.inr (by rw [show List.take (4 - 4) ([1, 0, 0, 0] : List UInt8) = [] from rfl, seal_none]; decide))).mono ?_
  rintro e w3 ⟨rfl, b3⟩
  have bb3 := a3.trans (b3.mono a3.size)
  have c3 := c2.trans (bb3.mono c2.size)
  have q2 := q1.below bb3
  have k1 := q2.conv (P := Try.prog) n1 22 5 9 Try.underlying22 Try.underlying5 Try.underlying9
  clear q1 q2 r3 a3 b3 bb3 c2
  go_wp2
  go_ret
  exact ⟨rfl, c3⟩
end Go.Proofs.Ytpainpekapnbhaa

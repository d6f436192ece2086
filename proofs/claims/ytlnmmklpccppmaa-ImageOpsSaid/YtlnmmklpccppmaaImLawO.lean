/-
  The statement on operations, and what it says at one of them.
-/
import Derived.Test.YtlnmmklpccppmaaImOpG
import Derived.Test.YtlnmmklpccppmaaImPutOp
namespace Go.Proofs.Ytlnmmklpccppmaa
open Go.RowKit

theorem oRes_none {b : List UInt8} (h : b.length ≠ 56) : oRes b = ([0, 0, 0, 0, 0, 0, 0], 60) := by
  unfold oRes
  split
  · rename_i vs hq
    have := enc_len hq
    simp only [List.length_nil] at this
    omega
  · rfl
theorem oRes_put {ns : List Int} (h7 : ns.length = 7) (hi : ∀ x ∈ ns, IsInt x) : oRes (ns.flatMap encI) = (ns, 0) := by
  have := (prep_codec pint_codec 7).full ns [] ⟨h7, hi⟩
  rw [List.append_nil] at this
  exact oRes_some this
def oneOp : List UInt8 := [6, 0, 0, 0, 0, -1, 0].flatMap encI
theorem oneOp_len : oneOp.length = 56 := by unfold oneOp; rw [flat_len encI_length]; rfl
theorem oneOp_7 : oneOp[7]? = some 6 := by decide +kernel
theorem oneOp_40 : oneOp[40]? = some 255 := by decide +kernel
theorem oneOp_res : oRes oneOp = ([6, 0, 0, 0, 0, -1, 0], 0) := oRes_put rfl (by intro x hx; simp at hx; unfold IsInt; omega)
set_option maxHeartbeats 1000000 in
theorem ops_holds (w : World) : Calls Try.prog 6 #[] w (Holds w) := by
  obtain ⟨z, hz⟩ : ∃ z : Nat, z = 55 := ⟨_, rfl⟩
  have hmk := run_make_bytes (P := Try.prog) Try.underlying25 Try.infoU8 z z (by omega) (by omega)
  rw [show ((z : Nat) : Int) = 55 by omega] at hmk
  have Hz := Lib.hid hz
  clear hz
  go_enter Try.func6, Try.ntmps6
  go_wp2_with fail
  refine (putOp_any [6, 0, 0, 0, 0, -1, 0] rfl w).mono ?_
  rintro e w1 ⟨v, rfl, hown, hb1⟩
  change Own _ w1 w.heap.size v oneOp at hown
  obtain ⟨A, c, rfl, hc, hm, hr1⟩ := hown.shapeN oneOp_len
  go_wp2_with fail
  refine (getOp_any A 56 c oneOp w1 hr1 (by omega)).mono ?_
  rintro e w2 ⟨hb2, he⟩
  rw [oneOp_res] at he
  subst he
  dsimp only [intvs, List.map_cons, List.map_nil]
  go_wp2_with fail
  have KX := (Whole.new w2 #[.int .i64 6, .int .i64 0, .int .i64 0, .int .i64 0, .int .i64 0, .int .i64 (-1), .int .i64 0] 24).alloc (.cells (zcells z).toArray 5)
  have RZ := Rd.lit (w := w2.alloc (.cells #[.int .i64 6, .int .i64 0, .int .i64 0, .int .i64 0, .int .i64 0, .int .i64 (-1), .int .i64 0] 24)) (U := 5) (l := List.replicate z 0) (zcells z).toArray (by simp [zcells, bvs, bv]) (by rw [List.length_replicate, Hz.out]; simp [maxLen])
  rw [show (w2.alloc (.cells #[.int .i64 6, .int .i64 0, .int .i64 0, .int .i64 0, .int .i64 0, .int .i64 (-1), .int .i64 0] 24)).heap.size = w2.heap.size + 1 by simp, List.length_replicate] at RZ
  have BX := ((Below.refl w2.heap.size w2).alloc (Nat.le_refl _) (.cells #[.int .i64 6, .int .i64 0, .int .i64 0, .int .i64 0, .int .i64 0, .int .i64 (-1), .int .i64 0] 24)).alloc (by simp) (.cells (zcells z).toArray 5)
  generalize (w2.alloc (.cells #[.int .i64 6, .int .i64 0, .int .i64 0, .int .i64 0, .int .i64 0, .int .i64 (-1), .int .i64 0] 24)).alloc (.cells (zcells z).toArray 5) = W3 at KX RZ BX ⊢
  refine (getOp_any _ z z _ W3 RZ (by have := Hz.out; omega)).mono ?_
  rintro e w4 ⟨hb4, he⟩
  rw [oRes_none (by rw [List.length_replicate, Hz.out]; decide)] at he
  subst he
  dsimp only [intvs, List.map_cons, List.map_nil]
  have B2 := hb1.trans (hb2.mono hb1.size)
  have B3 := B2.trans (BX.mono B2.size)
  have B4 := B3.trans (hb4.mono B3.size)
  have KX4 := (KX.below hb4).alloc (.cells #[.int .i64 0, .int .i64 0, .int .i64 0, .int .i64 0, .int .i64 0, .int .i64 0, .int .i64 0] 24)
  have R4 := (((hr1.below hb2).below BX).below hb4).alloc (.cells #[.int .i64 0, .int .i64 0, .int .i64 0, .int .i64 0, .int .i64 0, .int .i64 0, .int .i64 0] 24)
  have B5 := B4.alloc B4.size (.cells #[.int .i64 0, .int .i64 0, .int .i64 0, .int .i64 0, .int .i64 0, .int .i64 0, .int .i64 0] 24)
  obtain ⟨b', off, x7, rfl, _, h7, c7⟩ := R4.cell (j := 7) (by omega)
  obtain ⟨_, _, x40, e, _, h40, c40⟩ := R4.cell (j := 40) (by omega)
  injection e with e
  injection e with e1 e2
  subst e1 e2
  rw [oneOp_7] at h7
  rw [oneOp_40] at h40
  injection h7 with h7
  injection h40 with h40
  subst h7 h40
  have v5 := KX4.cell 5
  have HB5 := Lib.hid B5
  clear R4 B5 B4 B3 B2 hb4 hb2 hb1 BX RZ KX KX4 hr1 hown hmk
  go_wp2_with fail
  go_ret
  exact ⟨rfl, HB5.out⟩
end Go.Proofs.Ytlnmmklpccppmaa

/-
  GetOp, and the document's own answers for operations: contracts.
-/
import Derived.Test.YtlnmmklpccppmaaImWhO
import Derived.Test.YtlnmmklpccppmaaCdRefR
namespace Go.Proofs.Ytlnmmklpccppmaa
open Go.RowKit

/-- What bytes are as an operation, and the error. -/
def oRes (b : List UInt8) : List Int × Int := match prep pint 7 b with | some (vs, []) => (vs, 0) | _ => ([0, 0, 0, 0, 0, 0, 0], 60)
theorem oRes_some {b : List UInt8} {vs : List Int} (h : prep pint 7 b = some (vs, [])) : oRes b = (vs, 0) := by unfold oRes; rw [h]
theorem oRes_len (b : List UInt8) : (oRes b).1.length = 7 := by
  unfold oRes
  split
  · rename_i h; exact prep_len h
  · rfl
/-- What GetOp answers. -/
def GotO (w : World) (b : List UInt8) (e : Ending) (w' : World) : Prop := Below w.heap.size w w' ∧ e = .returned (.tuple #[.agg (intvs (oRes b).1).toArray, .int .i64 (oRes b).2])
theorem WholeO.got {w w' : World} {b : List UInt8} {e : Ending} (h : WholeO w b e w') : GotO w b e w' := by
  refine ⟨h.1, ?_⟩
  have h2 := h.2
  unfold oRes
  split at h2
  · rename_i hq; rw [hq]; exact h2
  · rename_i hq
    rw [h2]
    split
    · rename_i vs hq2; exact absurd hq2 (hq vs)
    · rfl
set_option maxHeartbeats 1000000 in
theorem getOp_any (A : Option Addr) (n c : Nat) (b : List UInt8) (w : World) (hb : Rd w A n b) (hn : n ≤ 70368744177664) :
    Calls Try.prog 5 #[.slice A n c] w (GotO w b) := by
  have hlen := oRes_len b
  go_enter Try.func5, Try.ntmps5
  go_wp2_with fail
  have KR := Whole.new w #[.int .i64 0, .int .i64 0, .int .i64 0, .int .i64 0, .int .i64 0, .int .i64 0, .int .i64 0] 24
  have B0 := (Below.refl w.heap.size w).alloc (Nat.le_refl _) (.cells #[.int .i64 0, .int .i64 0, .int .i64 0, .int .i64 0, .int .i64 0, .int .i64 0, .int .i64 0] 24)
  generalize w.alloc (.cells #[.int .i64 0, .int .i64 0, .int .i64 0, .int .i64 0, .int .i64 0, .int .i64 0, .int .i64 0] 24) = W at KR B0 ⊢
  refine ((wholeO_any A n c b W (hb.below B0) hn).mono fun _ _ h => h.got).mono ?_
  rintro e w1 ⟨hB, he⟩
  have KR1 := KR.below hB
  have B1 := B0.trans (hB.mono B0.size)
  rcases hx : oRes b with ⟨l, er⟩
  rw [hx] at hlen he
  have Hr := Lib.hid hx
  clear hx
  simp only at hlen he
  match l, hlen with
  | [v0, v1, v2, v3, v4, v5, v6], _ =>
    subst he
    have p0 := KR1.cell 0
    have p1 := KR1.cell 1
    have p2 := KR1.cell 2
    have p3 := KR1.cell 3
    have p4 := KR1.cell 4
    have p5 := KR1.cell 5
    have p6 := KR1.cell 6
    have z0 := KR1.free 0
    have z1 := KR1.free 1
    have z2 := KR1.free 2
    have z3 := KR1.free 3
    have z4 := KR1.free 4
    have z5 := KR1.free 5
    have z6 := KR1.free 6
    have K7 := (((((((KR1.set 0 (.int .i64 v0)).set 1 (.int .i64 v1)).set 2 (.int .i64 v2)).set 3 (.int .i64 v3)).set 4 (.int .i64 v4)).set 5 (.int .i64 v5)).set 6 (.int .i64 v6))
    have G7 := grown_sets (wr := w1) (b := w.heap.size) (.int .i64 v0) (.int .i64 v1) (.int .i64 v2) (.int .i64 v3) (.int .i64 v4) (.int .i64 v5) (.int .i64 v6)
    have H7 := Lib.hid (And.intro K7 (below_grown B1 G7 B1.size (Nat.le_refl _)))
    clear K7 G7 KR KR1 B0 B1 hB
    dsimp only [intvs, List.map_cons, List.map_nil]
    go_wp2
    refine bodyPost_ret (results_c2 rfl _ _ _ _ rfl H7.out.1 Try.underlying24 (by kernel_rfl)) rfl ?_
    exact ⟨H7.out.2, by rw [Hr.out]; rfl⟩

theorem enc_len {n : Nat} {b : List UInt8} {vs : List Int} {r : List UInt8} (h : prep pint n b = some (vs, r)) : b.length = 8 * n + r.length := by
  obtain ⟨d, e⟩ := (prep_codec pint_codec n).sound _ _ _ h
  rw [e, List.length_append, flat_len encI_length, d.1]
theorem pint_of_len {l : List UInt8} (h : 8 ≤ l.length) : ∃ x, pint l = some (x, l.drop 8) ∧ (rint l).1 = x := by
  refine ⟨_, ?_, rfl⟩
  have h4 : rint l = (wrap64 (ofbe (l.take 8)), 8, 0) := by rw [rint, if_neg (by omega)]
  unfold pint
  rw [h4]
  rfl
end Go.Proofs.Ytlnmmklpccppmaa

/-
  The statements' own helpers: tumuluskeep.Ints, row: contracts.
-/
import Derived.Test.YtjncmfjikoepgaaChMan
import Derived.Test.YtjncmfjikoepgaaChRef4
namespace Go.Proofs.Ytjncmfjikoepgaa
open Go.RowKit

set_option maxRecDepth 20000 in
set_option maxHeartbeats 1000000 in
theorem ints_any (A A2 : Option Addr) (k c k2 c2 : Nat) (x y : List Int) (w : World) (hx : RdV w A k (ivs x)) (hy : RdV w A2 k2 (ivs y)) (hk : k ≤ 1000000000) :
    Calls Try.prog 13 #[.slice A k c, .slice A2 k2 c2] w fun e w' => e = .returned (.bool (decide (x = y))) ∧ Below w.heap.size w w' := by
  obtain ⟨b, hb⟩ : ∃ b, b = decide (x = y) := ⟨_, rfl⟩
  rw [← hb]
  have HD := Lib.hid hb
  clear hb
  have hl1 : x.length = k := by have := hx.len; rwa [ivs_length] at this
  have hl2 : y.length = k2 := by have := hy.len; rwa [ivs_length] at this
  by_cases hkk : k = k2
  case neg =>
    have hne : ((k : Int) == (k2 : Int)) = false := by rw [beq_eq_false_iff_ne]; omega
    obtain rfl : b = false := HD.out.trans (decide_eq_false (fun h => hkk (by rw [← hl1, ← hl2, h])))
    clear hx hy hl1 hl2
    go_enter Try.func13, Try.ntmps13
    go_wp2
    go_ret
    exact ⟨rfl, Below.refl _ _⟩
  subst hkk
  have Hx := Lib.hid hx
  have Hy := Lib.hid hy
  have Hl := Lib.hid (And.intro hl1 hl2)
  clear hx hy hl1 hl2
  go_enter Try.func13, Try.ntmps13
  go_wp2_with fail
  go_loopw [5] (fun i wr => ∃ j : Nat, j ≤ k ∧ i = .int .i64 (j : Int) ∧ Hid (x.take j = y.take j) ∧ Hid (Below w.heap.size w wr)) (fun i _ => k - (intOf i).toNat)
  case atStart => exact ⟨0, by omega, rfl, Lib.hid (by simp), Lib.hid (Below.refl _ _)⟩
  case round =>
    obtain ⟨j, hj, rfl, hE, hW⟩ := hrel
    by_cases hlt : j < k
    · obtain ⟨g, off, u, rfl, _, hu, hc⟩ := (Hx.out.below (hW.out.trans (Below.refl _ _).drew)).cell hlt
      obtain ⟨g2, off2, u2, rfl, _, hu2, hc2⟩ := (Hy.out.below (hW.out.trans (Below.refl _ _).drew)).cell hlt
      obtain ⟨a, ha, rfl⟩ := ivs_get hu
      obtain ⟨a2, ha2, rfl⟩ := ivs_get hu2
      have Ha := Lib.hid (And.intro ha ha2)
      clear hu hu2 ha ha2
      by_cases he : a = a2
      · subst he
        have HE := Lib.hid (show x.take (j + 1) = y.take (j + 1) by rw [List.take_add_one, List.take_add_one, hE.out, Ha.out.1, Ha.out.2])
        go_upto_region 6 with (fail)
        go_region
        all_goals (
          go_wp2
          go_roundw
          case rel => exact ⟨j + 1, by omega, by go_num, HE, Lib.hid hW.out.drew⟩
          case measure => simp [intOf]; omega)
      · have hne : (a == a2) = false := by rw [beq_eq_false_iff_ne]; exact he
        obtain rfl : b = false := HD.out.trans (decide_eq_false (fun h => he (by have h1 := Ha.out.1; rw [h, Ha.out.2] at h1; injection h1 with h1; exact h1.symm)))
        go_upto_region 6 with (fail)
        go_region
        all_goals (
          go_wp2
          go_ret
          exact ⟨rfl, hW.out.drew⟩)
    · obtain rfl : j = k := by omega
      have h2 := hE.out
      rw [List.take_of_length_le (by rw [Hl.out.1]; exact Nat.le_refl _), List.take_of_length_le (by rw [Hl.out.2]; exact Nat.le_refl _)] at h2
      obtain rfl : b = true := HD.out.trans (decide_eq_true h2)
      clear h2
      go_wp2
      go_ret
      exact ⟨rfl, hW.out⟩
/-- So many bytes, each its place. -/
def rowL (n : Nat) : List UInt8 := (List.range n).map UInt8.ofNat
theorem rowL_length (n : Nat) : (rowL n).length = n := by simp [rowL]
def rowS (n : Nat) : ByteArray := ⟨(rowL n).toArray⟩
theorem rowS_size (n : Nat) : (rowS n).size = n := by
  show (rowL n).toArray.size = n
  simp [rowL]
set_option maxRecDepth 20000 in
set_option maxHeartbeats 1000000 in
theorem row_any (n : Nat) (w : World) (hn : n ≤ 100000) :
    Calls Try.prog 30 #[.int .i64 (n : Int)] w fun e w' => e = .returned (.string (rowS n)) ∧ Below w.heap.size w w' := by
  have hmk := run_make_bytes (P := Try.prog) Try.underlying45 Try.infoU8 n n (Nat.le_refl _) (by omega)
  have ho : Own 5 (w.alloc (.cells (zcells n).toArray 5)) w.heap.size (.slice (some ⟨w.heap.size, 0, none⟩) n n) (List.replicate n 0) := by
    have := Own.of_row (U := 5) (base := w.heap.size) (l := List.replicate n 0) (g := w.heap.size) (cap := n) (cur := zcells n) (w := w.alloc (.cells (zcells n).toArray 5)) (heap_alloc_new w _) (Nat.le_refl _) (by simp) (by unfold maxLen; omega) (zcells_length n) (by simp [zcells, bvs, bv])
    rwa [List.length_replicate] at this
  have hb : Below w.heap.size w (w.alloc (.cells (zcells n).toArray 5)) := (Below.refl _ _).alloc (Nat.le_refl _) _
  have HO := Lib.hid (And.intro ho hb)
  clear ho hb
  go_enter Try.func30, Try.ntmps30
  go_wp2_with fail
  generalize w.alloc (.cells (zcells n).toArray 5) = W0 at HO ⊢
  go_loopw [4] (fun i wr => ∃ j : Nat, j ≤ n ∧ i = .int .i64 (j : Int) ∧ Hid (Own 5 wr w.heap.size (.slice (some ⟨w.heap.size, 0, none⟩) n n) (rowL j ++ List.replicate (n - j) 0) ∧ Below w.heap.size w wr)) (fun i _ => n - (intOf i).toNat)
  case atStart => exact ⟨0, by omega, rfl, Lib.hid ⟨by simpa [rowL] using HO.out.1, HO.out.2⟩⟩
  case round =>
    obtain ⟨j, hj, rfl, hW⟩ := hrel
    have hlen : (rowL j ++ List.replicate (n - j) (0 : UInt8)).length = n := by rw [List.length_append, rowL_length, List.length_replicate]; omega
    by_cases hlt : j < n
    · obtain ⟨x, _, hc⟩ := hW.out.1.cell hlen hlt
      have hf := hW.out.1.free hlen j
      have hs := hW.out.1.set hlen j (UInt8.ofNat j)
      have hls : (rowL j ++ List.replicate (n - j) (0 : UInt8)).set j (UInt8.ofNat j) = rowL (j + 1) ++ List.replicate (n - (j + 1)) 0 := by
        rw [List.set_append_right _ _ (by rw [rowL_length]; exact Nat.le_refl _), rowL_length, Nat.sub_self, show n - j = (n - (j + 1)) + 1 by omega, List.replicate_succ, List.set_cons_zero]
        simp [rowL, List.range_succ]
      rw [hls, bv_ofNat] at hs
      have HS := Lib.hid (And.intro hs (hW.out.2.setCell (p := ⟨w.heap.size, j, none⟩) (Nat.le_refl _) (.int .u8 ((j : Int) % 256))))
      clear hs hls hlen
      go_wp2
      go_roundw
      case rel => exact ⟨j + 1, by omega, by go_num, HS⟩
      case measure => simp [intOf]; omega
    · obtain rfl : j = n := by omega
      have ho := hW.out.1
      rw [Nat.sub_self, List.replicate_zero, List.append_nil] at ho
      obtain ⟨A, c, hv, _, _, hr⟩ := ho.shapeN (rowL_length j)
      injection hv with e1 e2 e3
      subst e1
      have kc := hr.conv (P := Try.prog) j 45 5 9 Try.underlying45 Try.underlying5 Try.underlying9
      rw [show (ByteArray.mk (rowL j).toArray) = rowS j from rfl] at kc
      clear hr ho e3 hlen e2
      go_wp2
      go_ret
      exact ⟨rfl, hW.out.2⟩
end Go.Proofs.Ytjncmfjikoepgaa

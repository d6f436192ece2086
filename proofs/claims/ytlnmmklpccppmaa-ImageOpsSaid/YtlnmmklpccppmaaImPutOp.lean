/-
  PutOp: seven ints; the document's own answer is the same bytes.
-/
import Derived.Test.YtlnmmklpccppmaaImLaid
namespace Go.Proofs.Ytlnmmklpccppmaa
open Go.RowKit

set_option maxHeartbeats 1000000 in
theorem laidOp_any (ns : List Int) (h7 : ns.length = 7) (b base : Nat) (v : Value) (bs : List UInt8) (w : World) (hL : Laid w b base v bs) (hbase : base ≤ w.heap.size) (hbs : bs.length ≤ 1000000) :
    Calls Try.prog 8 #[.pointer (some ⟨b, 0, none⟩), .agg (intvs ns).toArray] w (LaidPost w b base v (bs ++ ns.flatMap encI)) := by
  have hb1 : Below w.heap.size w ((w.alloc (.cells (intvs ns).toArray 24)).alloc (.cells (intvs ns).toArray 3)) := ((Below.refl _ _).alloc (Nat.le_refl _) _).alloc (by simp) _
  have hrow : RdV ((w.alloc (.cells (intvs ns).toArray 24)).alloc (.cells (intvs ns).toArray 3)) (some ⟨w.heap.size + 1, 0, none⟩) 7 (intvs ns) := by
    have := (Whole.new (w.alloc (.cells (intvs ns).toArray 24)) (intvs ns).toArray 3).rd
    rw [show (w.alloc (.cells (intvs ns).toArray 24)).heap.size = w.heap.size + 1 by simp, List.toList_toArray, intvs_length, h7] at this
    exact this
  have L1 := Lays.begin hL hb1
  have Hc := Lib.hid (ints_any (some ⟨w.heap.size + 1, 0, none⟩) 7 7 ns b base v bs _ hrow (Off.new (t := 0) hL (by omega) (by simp)) L1.laid (by have := hb1.size; omega) (by omega) hbs)
  obtain ⟨X, hX⟩ : ∃ X, X = ns.flatMap encI := ⟨_, rfl⟩
  rw [← hX] at Hc ⊢
  have HL := Lib.hid L1
  clear hX hb1 hrow L1 hL
  match ns, h7 with
  | [k, h, i, n, kk, v', t], _ =>
    unfold intvs at *
    simp only [List.map_cons, List.map_nil] at *
    go_enter Try.func8, Try.ntmps8
    go_wp2_with fail
    refine Calls.mono Hc.out ?_
    rintro e w1 ⟨v2, rfl, hl2⟩
    go_wp2
    first | go_end0 | refine bodyPost_ret (results_none rfl _ _ _) rfl ?_
    exact ⟨_, rfl, HL.out.trans hl2⟩
set_option maxHeartbeats 1000000 in
theorem putOp_any (ns : List Int) (h7 : ns.length = 7) (w : World) : Calls Try.prog 4 #[.agg (intvs ns).toArray] w (Gives w (ns.flatMap encI)) := by
  have hW := Whole.new (w.alloc (.cells (intvs ns).toArray 24)) #[.slice none 0 0] 32
  have hb1 : Below w.heap.size w ((w.alloc (.cells (intvs ns).toArray 24)).alloc (.cells #[.slice none 0 0] 32)) := ((Below.refl _ _).alloc (Nat.le_refl _) _).alloc (by simp) _
  rw [show (w.alloc (.cells (intvs ns).toArray 24)).heap.size = w.heap.size + 1 by simp] at hW
  have L1 : Laid ((w.alloc (.cells (intvs ns).toArray 24)).alloc (.cells #[.slice none 0 0] 32)) (w.heap.size + 1) w.heap.size (.slice none 0 0) [] := ⟨hW, Own.nil⟩
  have Hc := Lib.hid (laidOp_any ns h7 (w.heap.size + 1) w.heap.size (.slice none 0 0) [] _ L1 hb1.size (by simp))
  rw [List.nil_append] at Hc
  obtain ⟨X, hX⟩ : ∃ X, X = ns.flatMap encI := ⟨_, rfl⟩
  rw [← hX] at Hc ⊢
  have HL := Lib.hid L1
  have HB := Lib.hid hb1
  clear hX hb1 L1 hW
  match ns, h7 with
  | [k, h, i, n, kk, v', t], _ =>
    unfold intvs at *
    simp only [List.map_cons, List.map_nil] at *
    go_enter Try.func4, Try.ntmps4
    go_wp2_with fail
    refine Calls.mono Hc.out ?_
    rintro e w1 ⟨v2, rfl, hl2⟩
    have hbw := HB.out.trans (hl2.below HL.out (by omega) HB.out.size)
    obtain ⟨A2, c2, rfl, _, _, _⟩ := hl2.laid.own.shape
    have b0 := hl2.laid.box.cell 0
    have Hl := Lib.hid hl2
    clear hl2
    go_wp2
    go_ret
    exact ⟨_, rfl, Hl.out.laid.own, hbw⟩
end Go.Proofs.Ytlnmmklpccppmaa

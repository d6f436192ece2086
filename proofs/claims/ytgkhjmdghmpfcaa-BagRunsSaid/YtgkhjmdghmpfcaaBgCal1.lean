/-
  The statement's call: contract of a Take that fails.
-/
import Derived.Test.YtgkhjmdghmpfcaaBgCal0
namespace Go.Proofs.Ytgkhjmdghmpfcaa
open Go.RowKit
set_option maxRecDepth 20000 in
set_option maxHeartbeats 2000000 in
theorem call_take_no {w : World} {p base room : Nat} {v : Value} {l0 : List (Ms × Value)} (hb : BagAt w p base room v l0) {A : Option Addr} {n c : Nat} {o : BOp} {L : Value} {most : Int} (hn : l0.length = n) (h2 : o.k = 2) (hi : o.n < 0 ∨ (n : Int) ≤ o.n) :
    Calls Try.prog 11 #[.pointer (some ⟨p, 0, none⟩), .slice A n c, .agg #[.int .i64 o.k, .int .i64 o.n, L], .int .i64 most] w fun e w' => e = .returned (.tuple #[.slice A n c, .bool true]) ∧ Below w.heap.size w w' := by
  subst hn
  have hb1 : Below w.heap.size w (w.alloc (.cells #[.int .i64 o.k, .int .i64 o.n, L] 33)) := (Below.refl _ _).alloc (Nat.le_refl _) _
  have hW := whole_op w o.k o.n L
  have HD := take_no (hb.below hb1) hi
  have HW := Lib.hid hW
  have HB1 := Lib.hid hb1
  clear hb hb1 hW
  rw [h2] at HD HW HB1 ⊢
  have k0 := HW.out.cell 0
  have k1 := HW.out.cell 1
  simp only [List.getElem?_cons_succ, List.getElem?_cons_zero] at k0 k1
  generalize hW1 : w.alloc (.cells #[.int .i64 2, .int .i64 o.n, L] 33) = W1 at HD HW HB1 k0 k1
  go_enter Try.func11, Try.ntmps11
  have hz : ∀ W : World, MsgR W (zms, zv) := fun W => ⟨none, 0, rfl, RdE.nil⟩
  have HS := fun W => refSame_any zms zms zv zv W (hz W) (hz W) (by decide)
  go_wp2_with (first | (go_at_call 21; refine HD.mono ?_; rintro e W2 ⟨rfl, b2⟩; obtain ⟨W3, a3, n3, hst⟩ := alloc_new W2; obtain ⟨W4, st4, n4⟩ := hst zms zv rfl; have b4 := b2.trans (n4.below.mono b2.size); have ld4 := load_box n4.whole; have j1 := (HW.out.below b4).cell 1; simp only [List.getElem?_cons_succ, List.getElem?_cons_zero] at j1; have HB2 := Lib.hid b4; clear b2 n3 hst n4 b4) | (refine wpList_alloc_run a3 rfl rfl ?_) | (refine wpList_store_run st4 rfl _ _ rfl rfl rfl ?_) | (refine wpList_load_run ld4 rfl _ rfl rfl ?_) | (refine wpList_wanted (by rfl) (exec_load (by rfl) ld4) ?_) | (go_at_call 18; refine (HS W4).mono ?_; rintro e W5 ⟨rfl, b5⟩; have HB5 := Lib.hid b5; clear b5))
  all_goals (refine bodyPost_ret (results_tmp2 rfl _ _ _) rfl ?_; exact ⟨rfl, HB1.out.trans ((HB2.out.trans (HB5.out.mono HB2.out.size)).mono HB1.out.size)⟩)
end Go.Proofs.Ytgkhjmdghmpfcaa

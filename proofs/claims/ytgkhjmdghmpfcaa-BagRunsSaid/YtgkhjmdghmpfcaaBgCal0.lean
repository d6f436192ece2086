/-
  The statement's call: contracts of what asks only, and of Double.
-/
import Derived.Test.YtgkhjmdghmpfcaaBgRov
namespace Go.Proofs.Ytgkhjmdghmpfcaa
open Go.RowKit
set_option maxRecDepth 20000 in
set_option maxHeartbeats 2000000 in
theorem call_else {w : World} {p : Value} {A : Option Addr} {n c : Nat} {o : BOp} {L : Value} {most : Int} (h1 : o.k ≠ 1) (h2 : o.k ≠ 2) (h3 : o.k ≠ 3) :
    Calls Try.prog 11 #[p, .slice A n c, .agg #[.int .i64 o.k, .int .i64 o.n, L], .int .i64 most] w fun e w' => e = .returned (.tuple #[.slice A n c, .bool true]) ∧ Below w.heap.size w w' := by
  go_enter Try.func11, Try.ntmps11
  go_wp2_with fail
  refine bodyPost_ret (results_tmp2 rfl _ _ _) rfl ?_
  exact ⟨rfl, (Below.refl _ _).alloc (Nat.le_refl _) _⟩
/-- A call's three cells in a new block. -/
theorem whole_op (w : World) (a b : Int) (L : Value) : Whole (w.alloc (.cells #[.int .i64 a, .int .i64 b, L] 33)) w.heap.size 33 [.int .i64 a, .int .i64 b, L] := Whole.new w _ _
set_option maxRecDepth 20000 in
set_option maxHeartbeats 2000000 in
theorem call_dbl_no {w : World} {p base room : Nat} {v : Value} {l0 : List (Ms × Value)} (hb : BagAt w p base room v l0) {A : Option Addr} {n c : Nat} {o : BOp} {L : Value} {most : Int} (hn : l0.length = n) (h3 : o.k = 3) (hi : o.n < 0 ∨ (n : Int) ≤ o.n) :
    Calls Try.prog 11 #[.pointer (some ⟨p, 0, none⟩), .slice A n c, .agg #[.int .i64 o.k, .int .i64 o.n, L], .int .i64 most] w fun e w' => e = .returned (.tuple #[.slice A n c, .bool true]) ∧ Below w.heap.size w w' := by
  subst hn
  have hb1 : Below w.heap.size w (w.alloc (.cells #[.int .i64 o.k, .int .i64 o.n, L] 33)) := (Below.refl _ _).alloc (Nat.le_refl _) _
  have hW := whole_op w o.k o.n L
  have HD := dbl_no (hb.below hb1) hi
  have HW := Lib.hid hW
  have HB1 := Lib.hid hb1
  have hdec : (decide (o.n < 0) || decide ((l0.length : Int) ≤ o.n)) = true := by rcases hi with h | h <;> simp [h]
  clear hb hb1 hW
  rw [h3] at HD HW HB1 ⊢
  have k0 := HW.out.cell 0
  have k1 := HW.out.cell 1
  simp only [List.getElem?_cons_succ, List.getElem?_cons_zero] at k0 k1
  generalize hW1 : w.alloc (.cells #[.int .i64 3, .int .i64 o.n, L] 33) = W1 at HD HW HB1 k0 k1
  go_enter Try.func11, Try.ntmps11
  go_wp2_with (go_at_call 22; refine HD.mono ?_; rintro e W2 ⟨rfl, b2⟩; have j1 := (HW.out.below b2).cell 1; simp only [List.getElem?_cons_succ, List.getElem?_cons_zero] at j1; have HB2 := Lib.hid b2; clear b2)
  all_goals (refine bodyPost_ret (results_tmp2 rfl _ _ _) rfl ?_; exact ⟨rfl, HB1.out.trans (HB2.out.mono HB1.out.size)⟩)
end Go.Proofs.Ytgkhjmdghmpfcaa

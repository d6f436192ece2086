/-
  The statement PdiskNil: walked. No disk: each call tells so.
-/
import Derived.Test.YtoookmkfaihbpaaPdArg
import Derived.Test.YtoookmkfaihbpaaPdAw
namespace Go.Proofs.Ytoookmkfaihbpaa
open Go.RowKit Go.Maps

set_option maxHeartbeats 1000000 in
theorem nil_read (a : Value) (w : World) : Calls Try.prog 17 #[.pointer none, a] w fun e w' => e = .returned (.tuple #[.slice none 0 0, .int .i64 3]) ∧ w' = w := by
  go_enter Try.func17, Try.ntmps17
  go_wp2
  go_ret2
  exact ⟨rfl, rfl⟩
set_option maxHeartbeats 1000000 in
theorem nil_write (a b : Value) (w : World) : Calls Try.prog 12 #[.pointer none, a, b] w fun e w' => e = .returned (.int .i64 3) ∧ w' = w := by
  go_enter Try.func12, Try.ntmps12
  go_wp2
  go_ret
  exact ⟨rfl, rfl⟩
set_option maxHeartbeats 1000000 in
theorem nil_flush (w : World) : Calls Try.prog 13 #[.pointer none] w fun e w' => e = .returned (.int .i64 3) ∧ w' = w := by
  go_enter Try.func13, Try.ntmps13
  go_wp2
  go_ret
  exact ⟨rfl, rfl⟩
set_option maxHeartbeats 1000000 in
theorem nil_stop (a : Value) (w : World) : Calls Try.prog 19 #[.pointer none, a] w fun e w' => e = .returned (.int .i64 3) ∧ w' = w := by
  go_enter Try.func19, Try.ntmps19
  go_wp2
  go_ret
  exact ⟨rfl, rfl⟩
set_option maxHeartbeats 1000000 in
theorem nil_crash (a : Value) (w : World) : Calls Try.prog 16 #[.pointer none, a] w fun e w' => e = .returned (.int .i64 3) ∧ w' = w := by
  go_enter Try.func16, Try.ntmps16
  go_wp2
  go_ret
  exact ⟨rfl, rfl⟩
set_option maxHeartbeats 1000000 in
theorem nil_size (w : World) : Calls Try.prog 20 #[.pointer none] w fun e w' => e = .returned (.int .i64 0) ∧ w' = w := by
  go_enter Try.func20, Try.ntmps20
  go_wp2
  go_ret
  exact ⟨rfl, rfl⟩
set_option maxHeartbeats 1000000 in
theorem nil_down (w : World) : Calls Try.prog 15 #[.pointer none] w fun e w' => e = .returned (.bool false) ∧ w' = w := by
  go_enter Try.func15, Try.ntmps15
  go_wp2
  go_ret
  exact ⟨rfl, rfl⟩

set_option maxRecDepth 20000 in
set_option maxHeartbeats 2000000 in
theorem pdiskNil_walk (o : Pop) (w : World) (h : RdPop w o) : Calls Try.prog 5 #[popv o] w (Holds w) := by
  obtain ⟨k, a, A, m, c, l, K, j, d, ks⟩ := o
  have hb0 : Below w.heap.size w ((w.alloc (.cells (pcs ⟨k, a, A, m, c, l, K, j, d, ks⟩).toArray 35)).alloc (.cells (pcs ⟨k, a, A, m, c, l, K, j, d, ks⟩).toArray 35)) :=
    ((Below.refl _ _).alloc (Nat.le_refl _) _).alloc (by simp) _
  have hp : RdPops ((w.alloc (.cells (pcs ⟨k, a, A, m, c, l, K, j, d, ks⟩).toArray 35)).alloc (.cells (pcs ⟨k, a, A, m, c, l, K, j, d, ks⟩).toArray 35)) (some ⟨w.heap.size + 1, 0, none⟩) 1 [⟨k, a, A, m, c, l, K, j, d, ks⟩] :=
    ⟨rfl, fun _ => ⟨w.heap.size + 1, 0, rfl, by simp, fun j' o' hj i u hu => by
      have hj0 : j' = 0 := by
        have := (List.getElem?_eq_some_iff.1 hj).1
        simp at this
        exact this
      subst hj0
      simp at hj
      subst hj
      have := (Whole.new (w.alloc (.cells (pcs ⟨k, a, A, m, c, l, K, j, d, ks⟩).toArray 35)) (pcs ⟨k, a, A, m, c, l, K, j, d, ks⟩).toArray 35).cell i
      simp only [World.size_alloc] at this
      rw [show (0 : Nat) + 0 * 4 + i = i from by omega]
      exact this.trans hu⟩, fun o' ho => by
      simp at ho
      subst ho
      exact h.below hb0⟩
  have hl := large_any (c := 1) hp
  simp only [pcs] at hl hb0
  unfold popv pcs
  clear hp
  go_enter Try.func5, Try.ntmps5
  go_upto_if 8 with (go_at_call 8; refine hl.mono ?_; rintro e w' ⟨q, rfl, _, rfl⟩)
  clear hl
  have hW := (Whole.new w #[.int .i64 k, .int .i64 a, .slice A m c, .slice K j d] 35).alloc (.cells #[.int .i64 k, .int .i64 a, .slice A m c, .slice K j d] 35)
  have hB : Below w.heap.size w ((w.alloc (.cells #[.int .i64 k, .int .i64 a, .slice A m c, .slice K j d] 35)).alloc (.cells #[.int .i64 k, .int .i64 a, .slice A m c, .slice K j d] 35)) := hb0
  clear hb0
  generalize (w.alloc (.cells #[.int .i64 k, .int .i64 a, .slice A m c, .slice K j d] 35)).alloc (.cells #[.int .i64 k, .int .i64 a, .slice A m c, .slice K j d] 35) = W at hW hB
  have HB := Lib.hid hB
  clear hB
  cases q with
  | true =>
    go_wp2
    go_ret
    exact ⟨rfl, HB.out⟩
  | false =>
    have ha := awake_any W
    have d1 := hW.cell 1
    have d2 := hW.cell 2
    have d3 := hW.cell 3
    simp at d1 d2 d3
    have HW := Lib.hid hW
    clear hW
    go_upto_region 5 with (go_at_call 17; refine (nil_read _ _).mono ?_; rintro e w' ⟨rfl, rfl⟩)
    go_wp2_with (first
      | (go_at_call 14; refine ha.mono ?_; rintro e W2 ⟨rfl, hb⟩; have d1 := (HW.out.below hb).cell 1; have d2 := (HW.out.below hb).cell 2; have d3 := (HW.out.below hb).cell 3; simp at d1 d2 d3; have HB2 := Lib.hid (HB.out.trans (hb.mono HB.out.size)); clear hb)
      | (go_at_call 12; refine (nil_write _ _ _).mono ?_; rintro e w' ⟨rfl, rfl⟩)
      | (go_at_call 13; refine (nil_flush _).mono ?_; rintro e w' ⟨rfl, rfl⟩)
      | (go_at_call 19; refine (nil_stop _ _).mono ?_; rintro e w' ⟨rfl, rfl⟩)
      | (go_at_call 16; refine (nil_crash _ _).mono ?_; rintro e w' ⟨rfl, rfl⟩)
      | (go_at_call 20; refine (nil_size _).mono ?_; rintro e w' ⟨rfl, rfl⟩)
      | (go_at_call 15; refine (nil_down _).mono ?_; rintro e w' ⟨rfl, rfl⟩))
    go_ret
    exact ⟨rfl, HB2.out⟩
end Go.Proofs.Ytoookmkfaihbpaa

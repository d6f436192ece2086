/-
  BagNil: the walk of the law.
-/
import Derived.Test.YtgkhjmdghmpfcaaBgLg
namespace Go.Proofs.Ytgkhjmdghmpfcaa
open Go.RowKit

theorem eqr_sint (W : World) {T : TypeId} (u : Try.prog.underlying T = some (.int .i64)) (a : Int) : EqRun Try.prog T (.int .i64 a) (.int .i64 a) true W := fun X Y => by
  rw [eqr_int W u a a X Y]
  simp
theorem exec_build0 {P : Program} {a : Act} {w w' : World} {t : TypeId} {v : Value} (r : (Instr.build t #[]).run P w = .ok v w') {dst ty pos after gd} : (execOp a.eval ⟨dst, .build t #[], ty, pos, after, gd⟩).run P w = .ok (.value v) w' := by
  simp [execOp, r]
theorem fo_1 (W : World) (b : Nat) : (Instr.fieldAt 33 (.pointer (some ⟨b, 0, none⟩)) 1).run Try.prog W = .ok (.pointer (some ⟨b, 1, none⟩)) W := by
  have u := Try.underlying33
  go_simp
theorem fo_2 (W : World) (b : Nat) : (Instr.fieldAt 33 (.pointer (some ⟨b, 0, none⟩)) 2).run Try.prog W = .ok (.pointer (some ⟨b, 2, none⟩)) W := by
  have u := Try.underlying33
  go_simp
set_option maxHeartbeats 400000 in
theorem allb_nil (w : World) : Calls Try.prog 13 #[.pointer none] w fun e w' => e = .returned (.slice none 0 0) ∧ w' = w := by
  go_enter Try.func13, Try.ntmps13
  go_wp2
  go_ret
  exact ⟨rfl, rfl⟩
/-- A slice of one call. -/
theorem bop_slice (w : World) (o : BOp) (h : RdB w o) : RdBs (w.alloc (.cells (bcs o).toArray 33)) (some ⟨w.heap.size, 0, none⟩) 1 [o] := by
  have hW := Whole.new w (bcs o).toArray 33
  refine ⟨rfl, ⟨rfl, fun _ => ⟨_, 0, rfl, hW.lt, ?_⟩⟩, fun q hq => ?_⟩
  · have := whole_range hW
    simpa using this
  · rw [List.mem_singleton.1 hq]
    exact RdM.below h ((Below.refl _ _).alloc (Nat.le_refl _) _)
set_option maxRecDepth 20000 in
set_option maxHeartbeats 4000000 in
theorem bagNil_walk (o : BOp) (w : World) (h : RdB w o) : Calls Try.prog 6 #[bov o] w (Holds w) := by
  have K0 := Whole.new w (bcs o).toArray 33
  have b0 : Below w.heap.size w (w.alloc (.cells (bcs o).toArray 33)) := (Below.refl _ _).alloc (Nat.le_refl _) _
  obtain ⟨W1, hW1⟩ : ∃ W1, W1 = w.alloc (.cells (bcs o).toArray 33) := ⟨_, rfl⟩
  rw [← hW1] at K0 b0
  have HL := large_any (c := 1) (bop_slice W1 o (RdM.below h b0))
  have b1 : Below W1.heap.size W1 (W1.alloc (.cells (bcs o).toArray 33)) := (Below.refl _ _).alloc (Nat.le_refl _) _
  have HK := Lib.hid K0
  have HB0 := Lib.hid b0
  have HB1 := Lib.hid b1
  have HW := Lib.hid hW1
  clear K0 b0 b1 h hW1
  unfold bov bcs at *
  go_enter Try.func6, Try.ntmps6
  go_upto_region 1 with (fail)
  rw [← HW.out]
  have c0 := HK.out.cell 0
  have c1 := HK.out.cell 1
  have c2 := HK.out.cell 2
  simp only [List.getElem?_cons_succ, List.getElem?_cons_zero] at c0 c1 c2
  go_upto_region 5 with (first | (go_at_call 8; refine HL.mono ?_; rintro x W2 ⟨q, rfl, hq, b2⟩; have HB2 := Lib.hid (HB1.out.trans (b2.mono HB1.out.size)); have d1 : W2.cell? ⟨w.heap.size, 1, none⟩ = some (.int .i64 o.n) := (HK.out.below HB2.out).cell 1; clear b2; cases q) | (go_at_call 21; refine (take_nil o.n _).mono ?_; rintro x W3 ⟨rfl, b3⟩; obtain ⟨W3', a3, n3, hst⟩ := alloc_new W3; obtain ⟨W4, st4, n4⟩ := hst zms zv rfl; have HN4 := Lib.hid n4; have HB3 := Lib.hid b3; clear n3 hst n4 b3) | (refine wpList_alloc_run a3 rfl rfl ?_) | (refine wpList_store_run st4 rfl _ _ rfl rfl rfl ?_))
  · have n4 := HN4.out
    have b4 : Below w.heap.size w W4 := ((HB0.out.trans (HB2.out.mono HB0.out.size)).trans (HB3.out.mono (Nat.le_trans HB0.out.size HB2.out.size))).trans (n4.below.mono (Nat.le_trans HB0.out.size (Nat.le_trans HB2.out.size HB3.out.size)))
    have K1 : Whole W4 w.heap.size 33 [.int .i64 o.k, .int .i64 o.n, .slice o.A o.m o.c] := (((HK.out.below HB2.out).below HB3.out).below n4.below)
    clear HL c0 c1 c2 d1 hq a3 st4
    have e0 : ∀ args w, (callFunc 10 args).run Try.prog w = .ok (.enter 10 args) w := enters_of Try.func10 (by kernel_rfl) rfl
    have e1 : ∀ args w, (callFunc 17 args).run Try.prog w = .ok (.enter 17 args) w := enters_of Try.func17 (by kernel_rfl) rfl
    have e2 : ∀ args w, (callFunc 20 args).run Try.prog w = .ok (.enter 20 args) w := enters_of Try.func20 (by kernel_rfl) rfl
    have e3 : ∀ args w, (callFunc 22 args).run Try.prog w = .ok (.enter 22 args) w := enters_of Try.func22 (by kernel_rfl) rfl
    have e4 : ∀ args w, (callFunc 12 args).run Try.prog w = .ok (.enter 12 args) w := enters_of Try.func12 (by kernel_rfl) rfl
    have e5 : ∀ args w, (callFunc 13 args).run Try.prog w = .ok (.enter 13 args) w := enters_of Try.func13 (by kernel_rfl) rfl
    refine wp_region_list ?_
    refine wpList_call_run (vs := #[]) e0 rfl (awake_any _) ?_
    rintro x W5 ⟨rfl, b5⟩
    refine ⟨_, rfl, ?_⟩
    have B5 := b4.trans (b5.mono b4.size)
    simp only [Act.put, List.setIfInBounds_toArray, List.set_cons_zero, List.set_cons_succ]
    refine wpList_pure (v := .bool true) rfl rfl ?_
    simp only [Act.put, List.setIfInBounds_toArray, List.set_cons_zero, List.set_cons_succ]
    refine wpList_wanted (v := mval zms zv) rfl (exec_load (x := .pointer (some ⟨W3.heap.size, 0, none⟩)) rfl (load_box (n4.whole.below b5))) ?_
    simp only [Act.put, List.setIfInBounds_toArray, List.set_cons_zero, List.set_cons_succ]
    refine wpList_wanted (v := mval zms zv) rfl (exec_build0 (build_ms _)) ?_
    simp only [Act.put, List.setIfInBounds_toArray, List.set_cons_zero, List.set_cons_succ]
    refine wpList_callg (vs := #[mval zms zv, mval zms zv]) e1 rfl rfl (same_any zms zms zv zv W5 msgR_zero msgR_zero (by decide)) ?_
    rintro x W6 ⟨rfl, b6⟩
    refine ⟨_, rfl, ?_⟩
    have B6 := B5.trans (b6.mono B5.size)
    have K6 := (K1.below b5).below b6
    simp only [Act.put, List.setIfInBounds_toArray, List.set_cons_zero, List.set_cons_succ]
    refine wpList_pure (v := .bool true) rfl rfl ?_
    simp only [Act.put, List.setIfInBounds_toArray, List.set_cons_zero, List.set_cons_succ]
    refine wpList_pure (v := .bool true) rfl rfl ?_
    simp only [Act.put, List.setIfInBounds_toArray, List.set_cons_zero, List.set_cons_succ]
    refine wpList_wanted (v := .int .i64 3) rfl rfl ?_
    simp only [Act.put, List.setIfInBounds_toArray, List.set_cons_zero, List.set_cons_succ]
    refine wpList_wanted (v := .bool true) rfl (exec_eql (u1 := .int .i64 3) (u2 := .int .i64 3) rfl rfl (eqr_sint _ Try.underlying25 _)) ?_
    simp only [Act.put, List.setIfInBounds_toArray, List.set_cons_zero, List.set_cons_succ]
    refine wpList_pure (v := .bool true) rfl rfl ?_
    simp only [Act.put, List.setIfInBounds_toArray, List.set_cons_zero, List.set_cons_succ]
    refine wpList_pure (v := .bool true) rfl rfl ?_
    simp only [Act.put, List.setIfInBounds_toArray, List.set_cons_zero, List.set_cons_succ]
    refine wpList_wanted (v := .pointer none) rfl rfl ?_
    simp only [Act.put, List.setIfInBounds_toArray, List.set_cons_zero, List.set_cons_succ]
    refine wpList_wanted (v := .pointer (some ⟨w.heap.size, 2, none⟩)) rfl (exec_field (x := .pointer (some ⟨w.heap.size, 0, none⟩)) rfl (fo_2 _ _)) ?_
    simp only [Act.put, List.setIfInBounds_toArray, List.set_cons_zero, List.set_cons_succ]
    refine wpList_wanted (v := .slice o.A o.m o.c) rfl (exec_load (x := .pointer (some ⟨w.heap.size, 2, none⟩)) rfl (ld_cell Try.isAgg29 ((K6).cell 2))) ?_
    simp only [Act.put, List.setIfInBounds_toArray, List.set_cons_zero, List.set_cons_succ]
    refine wpList_callg (vs := #[.pointer none, .slice o.A o.m o.c]) e2 rfl rfl (put_nil _ _ _ _) ?_
    rintro x W7 ⟨rfl, rfl⟩
    refine ⟨_, rfl, ?_⟩
    simp only [Act.put, List.setIfInBounds_toArray, List.set_cons_zero, List.set_cons_succ]
    refine wpList_wanted (v := .bool true) rfl (exec_eql (u1 := .int .i64 3) (u2 := .int .i64 3) rfl rfl (eqr_sint _ Try.underlying25 _)) ?_
    simp only [Act.put, List.setIfInBounds_toArray, List.set_cons_zero, List.set_cons_succ]
    refine wpList_pure (v := .bool true) rfl rfl ?_
    simp only [Act.put, List.setIfInBounds_toArray, List.set_cons_zero, List.set_cons_succ]
    refine wpList_pure (v := .bool true) rfl rfl ?_
    simp only [Act.put, List.setIfInBounds_toArray, List.set_cons_zero, List.set_cons_succ]
    refine wpList_wanted (v := .pointer none) rfl rfl ?_
    simp only [Act.put, List.setIfInBounds_toArray, List.set_cons_zero, List.set_cons_succ]
    refine wpList_wanted (v := .pointer (some ⟨w.heap.size, 1, none⟩)) rfl (exec_field (x := .pointer (some ⟨w.heap.size, 0, none⟩)) rfl (fo_1 _ _)) ?_
    simp only [Act.put, List.setIfInBounds_toArray, List.set_cons_zero, List.set_cons_succ]
    refine wpList_wanted (v := .int .i64 o.n) rfl (exec_load (x := .pointer (some ⟨w.heap.size, 1, none⟩)) rfl (ld_cell Try.isAgg3 ((K6).cell 1))) ?_
    simp only [Act.put, List.setIfInBounds_toArray, List.set_cons_zero, List.set_cons_succ]
    refine wpList_callg (vs := #[.pointer none, .int .i64 o.n]) e3 rfl rfl (dbl_nil _ _) ?_
    rintro x W8 ⟨rfl, rfl⟩
    refine ⟨_, rfl, ?_⟩
    simp only [Act.put, List.setIfInBounds_toArray, List.set_cons_zero, List.set_cons_succ]
    refine wpList_wanted (v := .bool true) rfl (exec_eql (u1 := .int .i64 3) (u2 := .int .i64 3) rfl rfl (eqr_sint _ Try.underlying25 _)) ?_
    simp only [Act.put, List.setIfInBounds_toArray, List.set_cons_zero, List.set_cons_succ]
    refine wpList_pure (v := .bool true) rfl rfl ?_
    simp only [Act.put, List.setIfInBounds_toArray, List.set_cons_zero, List.set_cons_succ]
    refine wpList_pure (v := .bool true) rfl rfl ?_
    simp only [Act.put, List.setIfInBounds_toArray, List.set_cons_zero, List.set_cons_succ]
    refine wpList_wanted (v := .pointer none) rfl rfl ?_
    simp only [Act.put, List.setIfInBounds_toArray, List.set_cons_zero, List.set_cons_succ]
    refine wpList_callg (vs := #[.pointer none]) e4 rfl rfl (len_nil _) ?_
    rintro x W9 ⟨rfl, rfl⟩
    refine ⟨_, rfl, ?_⟩
    simp only [Act.put, List.setIfInBounds_toArray, List.set_cons_zero, List.set_cons_succ]
    refine wpList_wanted (v := .bool true) rfl (exec_eql (u1 := .int .i64 0) (u2 := .int .i64 0) rfl rfl (eqr_sint _ Try.underlying3 _)) ?_
    simp only [Act.put, List.setIfInBounds_toArray, List.set_cons_zero, List.set_cons_succ]
    refine wpList_pure (v := .bool true) rfl rfl ?_
    simp only [Act.put, List.setIfInBounds_toArray, List.set_cons_zero, List.set_cons_succ]
    refine wpList_pure (v := .bool true) rfl rfl ?_
    simp only [Act.put, List.setIfInBounds_toArray, List.set_cons_zero, List.set_cons_succ]
    refine wpList_wanted (v := .pointer none) rfl rfl ?_
    simp only [Act.put, List.setIfInBounds_toArray, List.set_cons_zero, List.set_cons_succ]
    refine wpList_callg (vs := #[.pointer none]) e5 rfl rfl (allb_nil _) ?_
    rintro x Wa ⟨rfl, rfl⟩
    refine ⟨_, rfl, ?_⟩
    simp only [Act.put, List.setIfInBounds_toArray, List.set_cons_zero, List.set_cons_succ]
    refine wpList_wanted (v := .int .i64 0) rfl (by simp only [execOp]; go_simp) ?_
    simp only [Act.put, List.setIfInBounds_toArray, List.set_cons_zero, List.set_cons_succ]
    refine wpList_wanted (v := .bool true) rfl (exec_eql (u1 := .int .i64 0) (u2 := .int .i64 0) rfl rfl (eqr_sint _ Try.underlying3 _)) ?_
    simp only [Act.put, List.setIfInBounds_toArray, List.set_cons_zero, List.set_cons_succ]
    refine wpList_pure (v := .bool true) rfl rfl ?_
    simp only [Act.put, List.setIfInBounds_toArray, List.set_cons_zero, List.set_cons_succ]
    refine wpList_pure (v := .bool true) rfl rfl (wpList_nil ?_)
    simp only [Act.put, List.setIfInBounds_toArray, List.set_cons_zero, List.set_cons_succ]
    have HF := Lib.hid B6
    clear B5 B6 b4 b5 b6 n4 K1 e0 e1 e2 e3 e4 e5
    go_wp2
    go_ret
    exact ⟨rfl, HF.out⟩
  · go_ret
    exact ⟨rfl, HB0.out.trans (HB2.out.mono HB0.out.size)⟩
end Go.Proofs.Ytgkhjmdghmpfcaa

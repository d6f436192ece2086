/-
  Slices of acks and of votes, written out; the statements' rows of the document: sure, best.
-/
import Derived.Test.YtbfamijlaoopaaaVwAsk
namespace Go.Proofs.Ytbfamijlaoopaaa
open Go.RowKit
theorem bld_ack (w : World) (x y : Int) : (Instr.build 32 #[(0, .int .i64 x), (1, .int .i64 y)]).run Try.prog w = .ok (.agg #[.int .i64 x, .int .i64 y]) w := by kernel_rfl
theorem bld_vote (w : World) (x y : Int) : (Instr.build 51 #[(1, .int .i64 x), (3, .int .i64 y)]).run Try.prog w = .ok (.agg #[.int .i64 0, .int .i64 x, .int .i64 0, .int .i64 y, .int .i64 0, .slice none 0 0]) w := by kernel_rfl
theorem exec_build2 {P : Program} {a : Act} {w : World} {t : TypeId} {i j : Nat} {o o' : Operand} {x y v : Value} (h : a.eval o = x) (h' : a.eval o' = y) (r : (Instr.build t #[(i, x), (j, y)]).run P w = .ok v w) {dst ty pos after gd} : (execOp a.eval ⟨dst, .build t #[(i, o), (j, o')], ty, pos, after, gd⟩).run P w = .ok (.value v) w := by
  simp only [execOp, List.map_toArray, List.map_cons, List.map_nil, h, h', Sem.run_bind, r, Result.andThen_ok, Sem.run_pure]
theorem exec_slice3 {P : Program} {a : Act} {w w' : World} {o o' o2 : Operand} {t : TypeId} {x y z v : Value} (h : a.eval o = x) (h' : a.eval o' = y) (h2 : a.eval o2 = z) (r : (Instr.buildSlice t 3 #[(0, x), (1, y), (2, z)]).run P w = .ok v w') {dst ty pos after gd} : (execOp a.eval ⟨dst, .buildSlice t 3 #[(0, o), (1, o'), (2, o2)], ty, pos, after, gd⟩).run P w = .ok (.value v) w' := by
  simp only [execOp, List.map_toArray, List.map_cons, List.map_nil, h, h', h2, Sem.run_bind, r, Result.andThen_ok, Sem.run_pure]
def ackv (a : Int × Int) : Value := .agg (akc a).toArray
theorem sl1_ack (w : World) (a : Int × Int) : ∃ W, (Instr.buildSlice 29 1 #[(0, ackv a)]).run Try.prog w = .ok (.slice (some ⟨w.heap.size, 0, none⟩) 1 1) W ∧ RdK W (some ⟨w.heap.size, 0, none⟩) 1 [a] ∧ Below w.heap.size w W := by
  have hW := Whole.new w (akc a).toArray 32
  refine ⟨w.alloc (.cells (akc a).toArray 32), by kernel_rfl, ⟨rfl, rfl, fun _ => ⟨_, 0, rfl, hW.lt, fun j x hx => ?_⟩⟩, (Below.refl _ _).alloc (Nat.le_refl _) _⟩
  rw [Nat.zero_add, hW.cell]
  simpa using hx
theorem sl2_ack (w : World) (a b : Int × Int) : ∃ W, (Instr.buildSlice 29 2 #[(0, ackv a), (1, ackv b)]).run Try.prog w = .ok (.slice (some ⟨w.heap.size, 0, none⟩) 2 2) W ∧ RdK W (some ⟨w.heap.size, 0, none⟩) 2 [a, b] ∧ Below w.heap.size w W := by
  have hW := Whole.new w (akc a ++ akc b).toArray 32
  refine ⟨w.alloc (.cells (akc a ++ akc b).toArray 32), by kernel_rfl, ⟨rfl, rfl, fun _ => ⟨_, 0, rfl, hW.lt, fun j x hx => ?_⟩⟩, (Below.refl _ _).alloc (Nat.le_refl _) _⟩
  rw [Nat.zero_add, hW.cell]
  simpa using hx
def votv (a : Vt) : Value := .agg (vtc a).toArray
theorem sl3_vote (w : World) (a b c : Vt) : ∃ W, (Instr.buildSlice 34 3 #[(0, votv a), (1, votv b), (2, votv c)]).run Try.prog w = .ok (.slice (some ⟨w.heap.size, 0, none⟩) 3 3) W ∧ RdT W (some ⟨w.heap.size, 0, none⟩) 3 [a, b, c] ∧ Below w.heap.size w W := by
  have hW := Whole.new w (vtc a ++ (vtc b ++ vtc c)).toArray 51
  refine ⟨w.alloc (.cells (vtc a ++ (vtc b ++ vtc c)).toArray 51), by kernel_rfl, ⟨rfl, rfl, fun _ => ⟨_, 0, rfl, hW.lt, fun j x hx => ?_⟩⟩, (Below.refl _ _).alloc (Nat.le_refl _) _⟩
  rw [Nat.zero_add, hW.cell]
  simpa using hx
theorem RdK.nil {w : World} : RdK w none 0 [] := ⟨rfl, RdC.nil⟩
theorem RdT.nil {w : World} : RdT w none 0 [] := ⟨rfl, RdC.nil⟩
theorem ks1 : sureV 3 5 [(2, 3)] = 3 := by decide
theorem ks2 : sureV 3 5 [] = 0 := by decide
theorem ks3 : sureV 5 5 [(2, 4), (3, 2)] = 2 := by decide
def vt2 (a b : Int) : Vt := ⟨0, a, 0, b, 0, none, 0, 0⟩
theorem kb1 : bestP [vt2 1 9, vt2 2 3, vt2 2 3] 3 = 1 := by decide
section
variable {W : World} {q : Array Value}
theorem su1 (h : Calls Try.prog 20 q W fun e w' => e = .returned (.int .i64 (sureV 3 5 [(2, 3)])) ∧ Below W.heap.size W w') : Calls Try.prog 20 q W fun e w' => e = .returned (.int .i64 3) ∧ Below W.heap.size W w' := by rwa [ks1] at h
theorem su2 (h : Calls Try.prog 20 q W fun e w' => e = .returned (.int .i64 (sureV 3 5 [])) ∧ Below W.heap.size W w') : Calls Try.prog 20 q W fun e w' => e = .returned (.int .i64 0) ∧ Below W.heap.size W w' := by rwa [ks2] at h
theorem su3 (h : Calls Try.prog 20 q W fun e w' => e = .returned (.int .i64 (sureV 5 5 [(2, 4), (3, 2)])) ∧ Below W.heap.size W w') : Calls Try.prog 20 q W fun e w' => e = .returned (.int .i64 2) ∧ Below W.heap.size W w' := by rwa [ks3] at h
theorem be1 (h : Calls Try.prog 24 q W fun e w' => e = .returned (.int .i64 (bestP [vt2 1 9, vt2 2 3, vt2 2 3] 3)) ∧ Below W.heap.size W w') : Calls Try.prog 24 q W fun e w' => e = .returned (.int .i64 1) ∧ Below W.heap.size W w' := by rwa [kb1] at h
end
set_option maxHeartbeats 4000000 in
theorem sure_any (w : World) : Calls Try.prog 21 #[] w (Holds w) := by
  have e1 : ∀ args w, (callFunc 20 args).run Try.prog w = .ok (.enter 20 args) w := enters_of Try.func20 (by kernel_rfl) rfl
  obtain ⟨W0, hW0⟩ : ∃ W0, W0 = w := ⟨_, rfl⟩
  have B0 : Below W0.heap.size W0 w := by rw [hW0]; exact Below.refl _ _
  have HW0 := Lib.hid hW0
  clear hW0
  go_enter Try.func21, Try.ntmps21
  go_upto_region 1 with fail
  obtain ⟨W1, sl1, hr1, b1⟩ := sl1_ack w (2, 3)
  have B1 := B0.trans (b1.mono B0.size)
  refine wp_region_list ?_
  refine wpList_pure (v := ackv (2, 3)) rfl (exec_build2 (x := .int .i64 2) (y := .int .i64 3) rfl rfl (bld_ack _ _ _)) ?_
  simp only [Act.put, List.setIfInBounds_toArray, List.set_cons_zero, List.set_cons_succ]
  refine wpList_slice1_run sl1 rfl _ rfl rfl ?_
  simp only [Act.put, List.setIfInBounds_toArray, List.set_cons_zero, List.set_cons_succ]
  refine wpList_call_run (vs := #[.int .i64 3, .int .i64 5, .slice (some ⟨w.heap.size, 0, none⟩) 1 1]) e1 rfl (su1 (vsure_any (c := 1) hr1 (by omega) 3 5)) ?_
  rintro x W2 ⟨rfl, b2⟩
  refine ⟨_, rfl, ?_⟩
  have B2 := B1.trans (b2.mono B1.size)
  simp only [Act.put, List.setIfInBounds_toArray, List.set_cons_zero, List.set_cons_succ]
  refine wpList_pure (v := .bool true) rfl (by simp only [execOp]; go_simp) ?_
  simp only [Act.put, List.setIfInBounds_toArray, List.set_cons_zero, List.set_cons_succ]
  refine wpList_pure (v := .bool true) rfl rfl ?_
  simp only [Act.put, List.setIfInBounds_toArray, List.set_cons_zero, List.set_cons_succ]
  refine wpList_callg (vs := #[.int .i64 3, .int .i64 5, .slice none 0 0]) e1 rfl rfl (su2 (vsure_any (c := 0) RdK.nil (by omega) 3 5)) ?_
  rintro x W3 ⟨rfl, b3⟩
  refine ⟨_, rfl, ?_⟩
  have B3 := B2.trans (b3.mono B2.size)
  simp only [Act.put, List.setIfInBounds_toArray, List.set_cons_zero, List.set_cons_succ]
  refine wpList_wanted (v := .bool true) rfl (by simp only [execOp]; go_simp) ?_
  simp only [Act.put, List.setIfInBounds_toArray, List.set_cons_zero, List.set_cons_succ]
  refine wpList_pure (v := .bool true) rfl rfl ?_
  simp only [Act.put, List.setIfInBounds_toArray, List.set_cons_zero, List.set_cons_succ]
  refine wpList_pure (v := .bool true) rfl rfl ?_
  simp only [Act.put, List.setIfInBounds_toArray, List.set_cons_zero, List.set_cons_succ]
  refine wpList_wanted (v := ackv (2, 4)) rfl (exec_build2 (x := .int .i64 2) (y := .int .i64 4) rfl rfl (bld_ack _ _ _)) ?_
  simp only [Act.put, List.setIfInBounds_toArray, List.set_cons_zero, List.set_cons_succ]
  refine wpList_wanted (v := ackv (3, 2)) rfl (exec_build2 (x := .int .i64 3) (y := .int .i64 2) rfl rfl (bld_ack _ _ _)) ?_
  simp only [Act.put, List.setIfInBounds_toArray, List.set_cons_zero, List.set_cons_succ]
  obtain ⟨W4, sl4, hr4, b4⟩ := sl2_ack W3 (2, 4) (3, 2)
  have B4 := B3.trans (b4.mono B3.size)
  refine wpList_wantedW (v := .slice (some ⟨W3.heap.size, 0, none⟩) 2 2) rfl (exec_slice2 (x := ackv (2, 4)) (y := ackv (3, 2)) rfl rfl sl4) ?_
  simp only [Act.put, List.setIfInBounds_toArray, List.set_cons_zero, List.set_cons_succ]
  refine wpList_callg (vs := #[.int .i64 5, .int .i64 5, .slice (some ⟨W3.heap.size, 0, none⟩) 2 2]) e1 rfl rfl (su3 (vsure_any (c := 2) hr4 (by omega) 5 5)) ?_
  rintro x W5 ⟨rfl, b5⟩
  refine ⟨_, rfl, ?_⟩
  have B5 := B4.trans (b5.mono B4.size)
  simp only [Act.put, List.setIfInBounds_toArray, List.set_cons_zero, List.set_cons_succ]
  refine wpList_wanted (v := .bool true) rfl (by simp only [execOp]; go_simp) ?_
  simp only [Act.put, List.setIfInBounds_toArray, List.set_cons_zero, List.set_cons_succ]
  refine wpList_pure (v := .bool true) rfl rfl ?_
  simp only [Act.put, List.setIfInBounds_toArray, List.set_cons_zero, List.set_cons_succ]
  refine wpList_pure (v := .bool true) rfl rfl (wpList_nil ?_)
  simp only [Act.put, List.setIfInBounds_toArray, List.set_cons_zero]
  have HF := Lib.hid (show Below w.heap.size w W5 by have := B5; rw [HW0.out] at this; exact this)
  clear B0 B1 B2 B3 B4 B5 e1 sl1 sl4
  go_wp2
  go_ret
  exact ⟨rfl, HF.out⟩
set_option maxHeartbeats 4000000 in
theorem best_any (w : World) : Calls Try.prog 23 #[] w (Holds w) := by
  have e1 : ∀ args w, (callFunc 24 args).run Try.prog w = .ok (.enter 24 args) w := enters_of Try.func24 (by kernel_rfl) rfl
  obtain ⟨W0, hW0⟩ : ∃ W0, W0 = w := ⟨_, rfl⟩
  have B0 : Below W0.heap.size W0 w := by rw [hW0]; exact Below.refl _ _
  have HW0 := Lib.hid hW0
  clear hW0
  go_enter Try.func23, Try.ntmps23
  go_upto_region 1 with fail
  obtain ⟨W1, sl1, hr1, b1⟩ := sl3_vote w (vt2 1 9) (vt2 2 3) (vt2 2 3)
  have B1 := B0.trans (b1.mono B0.size)
  refine wp_region_list ?_
  refine wpList_pure (v := votv (vt2 1 9)) rfl (exec_build2 (x := .int .i64 1) (y := .int .i64 9) rfl rfl (bld_vote _ _ _)) ?_
  simp only [Act.put, List.setIfInBounds_toArray, List.set_cons_zero, List.set_cons_succ]
  refine wpList_pure (v := votv (vt2 2 3)) rfl (exec_build2 (x := .int .i64 2) (y := .int .i64 3) rfl rfl (bld_vote _ _ _)) ?_
  simp only [Act.put, List.setIfInBounds_toArray, List.set_cons_zero, List.set_cons_succ]
  refine wpList_pure (v := votv (vt2 2 3)) rfl (exec_build2 (x := .int .i64 2) (y := .int .i64 3) rfl rfl (bld_vote _ _ _)) ?_
  simp only [Act.put, List.setIfInBounds_toArray, List.set_cons_zero, List.set_cons_succ]
  refine wpList_value (v := .slice (some ⟨w.heap.size, 0, none⟩) 3 3) rfl (exec_slice3 (x := votv (vt2 1 9)) (y := votv (vt2 2 3)) (z := votv (vt2 2 3)) rfl rfl rfl sl1) ?_
  simp only [Act.put, List.setIfInBounds_toArray, List.set_cons_zero, List.set_cons_succ]
  refine wpList_call_run (vs := #[.slice (some ⟨w.heap.size, 0, none⟩) 3 3]) e1 rfl (be1 (vbest_any (c := 3) hr1 (by omega))) ?_
  rintro x W2 ⟨rfl, b2⟩
  refine ⟨_, rfl, ?_⟩
  have B2 := B1.trans (b2.mono B1.size)
  simp only [Act.put, List.setIfInBounds_toArray, List.set_cons_zero, List.set_cons_succ]
  refine wpList_pure (v := .bool true) rfl (by simp only [execOp]; go_simp) ?_
  simp only [Act.put, List.setIfInBounds_toArray, List.set_cons_zero, List.set_cons_succ]
  refine wpList_pure (v := .bool true) rfl rfl ?_
  simp only [Act.put, List.setIfInBounds_toArray, List.set_cons_zero, List.set_cons_succ]
  refine wpList_callg (vs := #[.slice none 0 0]) e1 rfl rfl (vbest_any (c := 0) RdT.nil (by omega)) ?_
  rintro x W3 ⟨rfl, b3⟩
  refine ⟨_, rfl, ?_⟩
  have B3 := B2.trans (b3.mono B2.size)
  simp only [Act.put, List.setIfInBounds_toArray, List.set_cons_zero, List.set_cons_succ]
  refine wpList_wanted (v := .bool true) rfl (by simp only [execOp]; rw [show bestP [] ([] : List Vt).length = -1 from rfl]; go_simp) ?_
  simp only [Act.put, List.setIfInBounds_toArray, List.set_cons_zero, List.set_cons_succ]
  refine wpList_pure (v := .bool true) rfl rfl ?_
  simp only [Act.put, List.setIfInBounds_toArray, List.set_cons_zero, List.set_cons_succ]
  refine wpList_pure (v := .bool true) rfl rfl (wpList_nil ?_)
  simp only [Act.put, List.setIfInBounds_toArray, List.set_cons_zero]
  have HF := Lib.hid (show Below w.heap.size w W3 by have := B3; rw [HW0.out] at this; exact this)
  clear B0 B1 B2 B3 e1 sl1
  go_wp2
  go_ret
  exact ⟨rfl, HF.out⟩
end Go.Proofs.Ytbfamijlaoopaaa

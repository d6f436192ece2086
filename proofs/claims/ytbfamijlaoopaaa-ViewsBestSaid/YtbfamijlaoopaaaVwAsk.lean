/-
  The statements' rows of the document: asks.
-/
import Derived.Test.YtbfamijlaoopaaaVwFn
import Derived.Test.YtbfamijlaoopaaaRunArm
import Derived.Test.YtbfamijlaoopaaaCmp
import Derived.Deep.DeepCutAuto
import Derived.Shelf.Abstract
namespace Go.Proofs.Ytbfamijlaoopaaa
open Go.RowKit
theorem kn3 : isN 3 = true := by decide
theorem kn4 : isN 4 = false := by decide
theorem kp1 : prim 3 0 = 1 := by decide
theorem kp2 : prim 3 5 = 3 := by decide
theorem kp3 : prim 4 0 = 0 := by decide
theorem kx1 : nextV 3 0 1 = 3 := by decide
theorem kx2 : nextV 3 0 2 = 1 := by decide
theorem kx3 : nextV 3 900000000 1 = -1 := by decide
theorem ke1 : enough 3 [3, 1] = true := by decide
theorem ke2 : enough 3 [1, 1] = false := by decide
section
variable {P : Program} {w w' : World} {ops : Array Oper} {rest : List Oper} {a : Act} {Q : Exit → Act → World → Prop}
theorem wpList_wantedW {o : Oper} {v : Value} (hgd : Region.wanted o (yielded ops a.tmps) = true) (h : (execOp a.eval o).run P w = .ok (.value v) w') (hk : wpList P ops Q rest (a.put o.dst v) w') : wpList P ops Q (o :: rest) a w := by
  unfold wpList
  rw [if_pos hgd]
  refine .inl ?_
  unfold Oper.wp
  rw [h]
  exact hk
end
/-- A slice of two numbers, written out. -/
theorem slice2_ints (w : World) (x y : Int) : ∃ W, (Instr.buildSlice 22 2 #[(0, .int .i64 x), (1, .int .i64 y)]).run Try.prog w = .ok (.slice (some ⟨w.heap.size, 0, none⟩) 2 2) W ∧ RdN W (some ⟨w.heap.size, 0, none⟩) 2 [x, y] ∧ Below w.heap.size w W := by
  refine ⟨w.alloc (.cells #[.int .i64 x, .int .i64 y] 3), ?_, (Whole.new w #[.int .i64 x, .int .i64 y] 3).rd, (Below.refl _ _).alloc (Nat.le_refl _) _⟩
  have u := Try.underlying22
  have u2 := Try.underlying3
  go_simp
theorem ent {W : World} {q : Array Value} (h : Calls Try.prog 18 q W fun e w' => e = .returned (.bool (enough 3 [3, 1])) ∧ Below W.heap.size W w') : Calls Try.prog 18 q W fun e w' => e = .returned (.bool true) ∧ Below W.heap.size W w' := by rwa [ke1] at h
theorem enf {W : World} {q : Array Value} (h : Calls Try.prog 18 q W fun e w' => e = .returned (.bool (enough 3 [1, 1])) ∧ Below W.heap.size W w') : Calls Try.prog 18 q W fun e w' => e = .returned (.bool false) ∧ Below W.heap.size W w' := by rwa [ke2] at h
set_option maxHeartbeats 4000000 in
theorem asks_any (w : World) : Calls Try.prog 11 #[] w (Holds w) := by
  have n3 : ∀ W, Calls Try.prog 12 #[.int .i64 3] W fun e w' => e = .returned (.bool true) ∧ Below W.heap.size W w' := fun W => by have h := vnodes_any 3 W; rwa [kn3] at h
  have n4 : ∀ W, Calls Try.prog 12 #[.int .i64 4] W fun e w' => e = .returned (.bool false) ∧ Below W.heap.size W w' := fun W => by have h := vnodes_any 4 W; rwa [kn4] at h
  have p1 : ∀ W, Calls Try.prog 14 #[.int .i64 3, .int .i64 0] W fun e w' => e = .returned (.int .i64 1) ∧ Below W.heap.size W w' := fun W => by have h := vprim_any 3 0 W; rwa [kp1] at h
  have p2 : ∀ W, Calls Try.prog 14 #[.int .i64 3, .int .i64 5] W fun e w' => e = .returned (.int .i64 3) ∧ Below W.heap.size W w' := fun W => by have h := vprim_any 3 5 W; rwa [kp2] at h
  have p3 : ∀ W, Calls Try.prog 14 #[.int .i64 4, .int .i64 0] W fun e w' => e = .returned (.int .i64 0) ∧ Below W.heap.size W w' := fun W => by have h := vprim_any 4 0 W; rwa [kp3] at h
  have x1 : ∀ W, Calls Try.prog 16 #[.int .i64 3, .int .i64 0, .int .i64 1] W fun e w' => e = .returned (.int .i64 3) ∧ Below W.heap.size W w' := fun W => by have h := vnext_any 3 0 1 W; rwa [kx1] at h
  have x2 : ∀ W, Calls Try.prog 16 #[.int .i64 3, .int .i64 0, .int .i64 2] W fun e w' => e = .returned (.int .i64 1) ∧ Below W.heap.size W w' := fun W => by have h := vnext_any 3 0 2 W; rwa [kx2] at h
  have x3 : ∀ W, Calls Try.prog 16 #[.int .i64 3, .int .i64 900000000, .int .i64 1] W fun e w' => e = .returned (.int .i64 (-1)) ∧ Below W.heap.size W w' := fun W => by have h := vnext_any 3 900000000 1 W; rwa [kx3] at h
  have e1 : ∀ args w, (callFunc 12 args).run Try.prog w = .ok (.enter 12 args) w := enters_of Try.func12 (by kernel_rfl) rfl
  have e2 : ∀ args w, (callFunc 14 args).run Try.prog w = .ok (.enter 14 args) w := enters_of Try.func14 (by kernel_rfl) rfl
  have e3 : ∀ args w, (callFunc 16 args).run Try.prog w = .ok (.enter 16 args) w := enters_of Try.func16 (by kernel_rfl) rfl
  have e4 : ∀ args w, (callFunc 18 args).run Try.prog w = .ok (.enter 18 args) w := enters_of Try.func18 (by kernel_rfl) rfl
  obtain ⟨W0, hW0⟩ : ∃ W0, W0 = w := ⟨_, rfl⟩
  have B0 : Below W0.heap.size W0 w := by rw [hW0]; exact Below.refl _ _
  have HW0 := Lib.hid hW0
  clear hW0
  go_enter Try.func11, Try.ntmps11
  go_upto_region 1 with fail
  refine wp_region_list ?_
  refine wpList_call_run (vs := #[.int .i64 3]) e1 rfl (n3 _) ?_
  rintro x W1 ⟨rfl, b1⟩
  refine ⟨_, rfl, ?_⟩
  have B1 := B0.trans (b1.mono B0.size)
  simp only [Act.put, List.setIfInBounds_toArray, List.set_cons_zero, List.set_cons_succ]
  refine wpList_pure (v := .bool true) rfl rfl ?_
  simp only [Act.put, List.setIfInBounds_toArray, List.set_cons_zero, List.set_cons_succ]
  refine wpList_callg (vs := #[.int .i64 4]) e1 rfl rfl (n4 _) ?_
  rintro x W2 ⟨rfl, b2⟩
  refine ⟨_, rfl, ?_⟩
  have B2 := B1.trans (b2.mono B1.size)
  simp only [Act.put, List.setIfInBounds_toArray, List.set_cons_zero, List.set_cons_succ]
  refine wpList_wanted (v := .bool true) rfl (by simp only [execOp]; go_simp) ?_
  simp only [Act.put, List.setIfInBounds_toArray, List.set_cons_zero, List.set_cons_succ]
  refine wpList_pure (v := .bool true) rfl rfl ?_
  simp only [Act.put, List.setIfInBounds_toArray, List.set_cons_zero, List.set_cons_succ]
  refine wpList_pure (v := .bool true) rfl rfl ?_
  simp only [Act.put, List.setIfInBounds_toArray, List.set_cons_zero, List.set_cons_succ]
  refine wpList_callg (vs := #[.int .i64 3, .int .i64 0]) e2 rfl rfl (p1 _) ?_
  rintro x W3 ⟨rfl, b3⟩
  refine ⟨_, rfl, ?_⟩
  have B3 := B2.trans (b3.mono B2.size)
  simp only [Act.put, List.setIfInBounds_toArray, List.set_cons_zero, List.set_cons_succ]
  refine wpList_wanted (v := .bool true) rfl (by simp only [execOp]; go_simp) ?_
  simp only [Act.put, List.setIfInBounds_toArray, List.set_cons_zero, List.set_cons_succ]
  refine wpList_pure (v := .bool true) rfl rfl ?_
  simp only [Act.put, List.setIfInBounds_toArray, List.set_cons_zero, List.set_cons_succ]
  refine wpList_pure (v := .bool true) rfl rfl ?_
  simp only [Act.put, List.setIfInBounds_toArray, List.set_cons_zero, List.set_cons_succ]
  refine wpList_callg (vs := #[.int .i64 3, .int .i64 5]) e2 rfl rfl (p2 _) ?_
  rintro x W4 ⟨rfl, b4⟩
  refine ⟨_, rfl, ?_⟩
  have B4 := B3.trans (b4.mono B3.size)
  simp only [Act.put, List.setIfInBounds_toArray, List.set_cons_zero, List.set_cons_succ]
  refine wpList_wanted (v := .bool true) rfl (by simp only [execOp]; go_simp) ?_
  simp only [Act.put, List.setIfInBounds_toArray, List.set_cons_zero, List.set_cons_succ]
  refine wpList_pure (v := .bool true) rfl rfl ?_
  simp only [Act.put, List.setIfInBounds_toArray, List.set_cons_zero, List.set_cons_succ]
  refine wpList_pure (v := .bool true) rfl rfl ?_
  simp only [Act.put, List.setIfInBounds_toArray, List.set_cons_zero, List.set_cons_succ]
  refine wpList_callg (vs := #[.int .i64 4, .int .i64 0]) e2 rfl rfl (p3 _) ?_
  rintro x W5 ⟨rfl, b5⟩
  refine ⟨_, rfl, ?_⟩
  have B5 := B4.trans (b5.mono B4.size)
  simp only [Act.put, List.setIfInBounds_toArray, List.set_cons_zero, List.set_cons_succ]
  refine wpList_wanted (v := .bool true) rfl (by simp only [execOp]; go_simp) ?_
  simp only [Act.put, List.setIfInBounds_toArray, List.set_cons_zero, List.set_cons_succ]
  refine wpList_pure (v := .bool true) rfl rfl ?_
  simp only [Act.put, List.setIfInBounds_toArray, List.set_cons_zero, List.set_cons_succ]
  refine wpList_pure (v := .bool true) rfl rfl (wpList_nil ?_)
  simp only [Act.put, List.setIfInBounds_toArray, List.set_cons_zero, List.set_cons_succ]
  go_upto_region 2 with fail
  refine wp_region_list ?_
  refine wpList_pure (v := .bool true) rfl rfl ?_
  simp only [Act.put, List.setIfInBounds_toArray, List.set_cons_zero, List.set_cons_succ]
  refine wpList_pure (v := .bool true) rfl rfl ?_
  simp only [Act.put, List.setIfInBounds_toArray, List.set_cons_zero, List.set_cons_succ]
  refine wpList_callg (vs := #[.int .i64 3, .int .i64 0, .int .i64 1]) e3 rfl rfl (x1 _) ?_
  rintro x W6 ⟨rfl, b6⟩
  refine ⟨_, rfl, ?_⟩
  have B6 := B5.trans (b6.mono B5.size)
  simp only [Act.put, List.setIfInBounds_toArray, List.set_cons_zero, List.set_cons_succ]
  refine wpList_wanted (v := .bool true) rfl (by simp only [execOp]; go_simp) ?_
  simp only [Act.put, List.setIfInBounds_toArray, List.set_cons_zero, List.set_cons_succ]
  refine wpList_pure (v := .bool true) rfl rfl ?_
  simp only [Act.put, List.setIfInBounds_toArray, List.set_cons_zero, List.set_cons_succ]
  refine wpList_pure (v := .bool true) rfl rfl ?_
  simp only [Act.put, List.setIfInBounds_toArray, List.set_cons_zero, List.set_cons_succ]
  refine wpList_callg (vs := #[.int .i64 3, .int .i64 0, .int .i64 2]) e3 rfl rfl (x2 _) ?_
  rintro x W7 ⟨rfl, b7⟩
  refine ⟨_, rfl, ?_⟩
  have B7 := B6.trans (b7.mono B6.size)
  simp only [Act.put, List.setIfInBounds_toArray, List.set_cons_zero, List.set_cons_succ]
  refine wpList_wanted (v := .bool true) rfl (by simp only [execOp]; go_simp) ?_
  simp only [Act.put, List.setIfInBounds_toArray, List.set_cons_zero, List.set_cons_succ]
  refine wpList_pure (v := .bool true) rfl rfl ?_
  simp only [Act.put, List.setIfInBounds_toArray, List.set_cons_zero, List.set_cons_succ]
  refine wpList_pure (v := .bool true) rfl rfl ?_
  simp only [Act.put, List.setIfInBounds_toArray, List.set_cons_zero, List.set_cons_succ]
  refine wpList_callg (vs := #[.int .i64 3, .int .i64 900000000, .int .i64 1]) e3 rfl rfl (x3 _) ?_
  rintro x W8 ⟨rfl, b8⟩
  refine ⟨_, rfl, ?_⟩
  have B8 := B7.trans (b8.mono B7.size)
  simp only [Act.put, List.setIfInBounds_toArray, List.set_cons_zero, List.set_cons_succ]
  refine wpList_wanted (v := .bool true) rfl (by simp only [execOp]; go_simp) ?_
  simp only [Act.put, List.setIfInBounds_toArray, List.set_cons_zero, List.set_cons_succ]
  refine wpList_pure (v := .bool true) rfl rfl ?_
  simp only [Act.put, List.setIfInBounds_toArray, List.set_cons_zero, List.set_cons_succ]
  refine wpList_pure (v := .bool true) rfl rfl ?_
  simp only [Act.put, List.setIfInBounds_toArray, List.set_cons_zero, List.set_cons_succ]
  obtain ⟨W9, sl9, hr9, b9⟩ := slice2_ints W8 3 1
  have B9 := B8.trans (b9.mono B8.size)
  refine wpList_wantedW (v := .slice (some ⟨W8.heap.size, 0, none⟩) 2 2) rfl (exec_slice2 (x := .int .i64 3) (y := .int .i64 1) rfl rfl sl9) ?_
  simp only [Act.put, List.setIfInBounds_toArray, List.set_cons_zero, List.set_cons_succ]
  refine wpList_callg (vs := #[.int .i64 3, .slice (some ⟨W8.heap.size, 0, none⟩) 2 2]) e4 rfl rfl (ent (venough_any (c := 2) hr9 (by omega) 3)) ?_
  rintro x W10 ⟨rfl, b10⟩
  refine ⟨_, rfl, ?_⟩
  have B10 := B9.trans (b10.mono B9.size)
  simp only [Act.put, List.setIfInBounds_toArray, List.set_cons_zero, List.set_cons_succ]
  refine wpList_pure (v := .bool true) rfl rfl ?_
  simp only [Act.put, List.setIfInBounds_toArray, List.set_cons_zero, List.set_cons_succ]
  refine wpList_pure (v := .bool true) rfl rfl ?_
  simp only [Act.put, List.setIfInBounds_toArray, List.set_cons_zero, List.set_cons_succ]
  obtain ⟨W11, sl11, hr11, b11⟩ := slice2_ints W10 1 1
  have B11 := B10.trans (b11.mono B10.size)
  refine wpList_wantedW (v := .slice (some ⟨W10.heap.size, 0, none⟩) 2 2) rfl (exec_slice2 (x := .int .i64 1) (y := .int .i64 1) rfl rfl sl11) ?_
  simp only [Act.put, List.setIfInBounds_toArray, List.set_cons_zero, List.set_cons_succ]
  refine wpList_callg (vs := #[.int .i64 3, .slice (some ⟨W10.heap.size, 0, none⟩) 2 2]) e4 rfl rfl (enf (venough_any (c := 2) hr11 (by omega) 3)) ?_
  rintro x W12 ⟨rfl, b12⟩
  refine ⟨_, rfl, ?_⟩
  have B12 := B11.trans (b12.mono B11.size)
  simp only [Act.put, List.setIfInBounds_toArray, List.set_cons_zero, List.set_cons_succ]
  refine wpList_wanted (v := .bool true) rfl (by simp only [execOp]; go_simp) ?_
  simp only [Act.put, List.setIfInBounds_toArray, List.set_cons_zero, List.set_cons_succ]
  refine wpList_pure (v := .bool true) rfl rfl ?_
  simp only [Act.put, List.setIfInBounds_toArray, List.set_cons_zero, List.set_cons_succ]
  refine wpList_pure (v := .bool true) rfl rfl (wpList_nil ?_)
  simp only [Act.put, List.setIfInBounds_toArray, List.set_cons_zero]
  have HF := Lib.hid (show Below w.heap.size w W12 by have := B12; rw [HW0.out] at this; exact this)
  clear B0 B1 B2 B3 B4 B5 B6 B7 B8 B9 B10 B11 B12 n3 n4 p1 p2 p3 x1 x2 x3 e1 e2 e3 e4
  go_wp2
  go_ret
  exact ⟨rfl, HF.out⟩
end Go.Proofs.Ytbfamijlaoopaaa

/-
  ViewsAsks and ViewsBest: walks of the laws.
-/
import Derived.Test.YtbfamijlaoopaaaVwSl
namespace Go.Proofs.Ytbfamijlaoopaaa
open Go.RowKit
theorem same_below {P : Program} {f : FuncId} {q : Array Value} {w : World} {v : Value} (h : Calls P f q w fun e w' => e = .returned v ∧ w' = w) : Calls P f q w fun e w' => e = .returned v ∧ Below w.heap.size w w' :=
  h.mono fun _ _ ⟨e, x⟩ => ⟨e, by rw [x]; exact Below.refl _ _⟩
set_option maxHeartbeats 4000000 in
theorem viewsAsks_walk (nodes view id : Int) (A : Option Addr) (n c : Nat) (l : List Int) (w : World) (h : RdN w A n l) : Calls Try.prog 3 #[.int .i64 nodes, .int .i64 view, .int .i64 id, .slice A n c] w (Holds w) := by
  by_cases hn : 300 < n
  · have hni : (300 : Int) < (n : Int) := by omega
    clear h
    go_enter Try.func3, Try.ntmps3
    go_wp2
    go_ret
    exact ⟨rfl, Below.refl _ _⟩
  · have hni : ¬ ((300 : Int) < (n : Int)) := by omega
    have hr : ∀ W, Below w.heap.size w W → RdN W A n l := fun W b => h.below b
    have HR := Lib.hid hr
    clear h hr
    have e0 : ∀ args w, (callFunc 11 args).run Try.prog w = .ok (.enter 11 args) w := enters_of Try.func11 (by kernel_rfl) rfl
    have e1 : ∀ args w, (callFunc 12 args).run Try.prog w = .ok (.enter 12 args) w := enters_of Try.func12 (by kernel_rfl) rfl
    have e2 : ∀ args w, (callFunc 13 args).run Try.prog w = .ok (.enter 13 args) w := enters_of Try.func13 (by kernel_rfl) rfl
    have e3 : ∀ args w, (callFunc 14 args).run Try.prog w = .ok (.enter 14 args) w := enters_of Try.func14 (by kernel_rfl) rfl
    have e4 : ∀ args w, (callFunc 15 args).run Try.prog w = .ok (.enter 15 args) w := enters_of Try.func15 (by kernel_rfl) rfl
    have e5 : ∀ args w, (callFunc 16 args).run Try.prog w = .ok (.enter 16 args) w := enters_of Try.func16 (by kernel_rfl) rfl
    have e6 : ∀ args w, (callFunc 17 args).run Try.prog w = .ok (.enter 17 args) w := enters_of Try.func17 (by kernel_rfl) rfl
    have e7 : ∀ args w, (callFunc 18 args).run Try.prog w = .ok (.enter 18 args) w := enters_of Try.func18 (by kernel_rfl) rfl
    have e8 : ∀ args w, (callFunc 19 args).run Try.prog w = .ok (.enter 19 args) w := enters_of Try.func19 (by kernel_rfl) rfl
    obtain ⟨W0, hW0⟩ : ∃ W0, W0 = w := ⟨_, rfl⟩
    have B0 : Below W0.heap.size W0 w := by rw [hW0]; exact Below.refl _ _
    have HW0 := Lib.hid hW0
    clear hW0
    go_enter Try.func3, Try.ntmps3
    go_upto_region 3 with fail
    refine wp_region_list ?_
    refine wpList_call_run (vs := #[]) e0 rfl (asks_any _) ?_
    rintro x W1 ⟨rfl, b1⟩
    refine ⟨_, rfl, ?_⟩
    have B1 := B0.trans (b1.mono B0.size)
    simp only [Act.put, List.setIfInBounds_toArray, List.set_cons_zero, List.set_cons_succ]
    refine wpList_pure (v := .bool true) rfl rfl ?_
    simp only [Act.put, List.setIfInBounds_toArray, List.set_cons_zero, List.set_cons_succ]
    refine wpList_wanted (v := .int .i64 nodes) rfl rfl ?_
    simp only [Act.put, List.setIfInBounds_toArray, List.set_cons_zero, List.set_cons_succ]
    refine wpList_callg (vs := #[.int .i64 nodes]) e1 rfl rfl (vnodes_any nodes _) ?_
    rintro x W2 ⟨rfl, b2⟩
    refine ⟨_, rfl, ?_⟩
    have B2 := B1.trans (b2.mono B1.size)
    simp only [Act.put, List.setIfInBounds_toArray, List.set_cons_zero, List.set_cons_succ]
    refine wpList_wanted (v := .int .i64 nodes) rfl rfl ?_
    simp only [Act.put, List.setIfInBounds_toArray, List.set_cons_zero, List.set_cons_succ]
    refine wpList_callg (vs := #[.int .i64 nodes]) e2 rfl rfl (same_below (rnodes_any nodes _)) ?_
    rintro x W3 ⟨rfl, b3⟩
    refine ⟨_, rfl, ?_⟩
    have B3 := B2.trans (b3.mono B2.size)
    simp only [Act.put, List.setIfInBounds_toArray, List.set_cons_zero, List.set_cons_succ]
    refine wpList_wanted (v := .bool true) rfl (by simp only [execOp]; go_simp) ?_
    simp only [Act.put, List.setIfInBounds_toArray, List.set_cons_zero, List.set_cons_succ]
    refine wpList_pure (v := .bool true) rfl rfl ?_
    simp only [Act.put, List.setIfInBounds_toArray, List.set_cons_zero, List.set_cons_succ]
    refine wpList_pure (v := .bool true) rfl rfl ?_
    simp only [Act.put, List.setIfInBounds_toArray, List.set_cons_zero, List.set_cons_succ]
    refine wpList_wanted (v := .int .i64 nodes) rfl rfl ?_
    simp only [Act.put, List.setIfInBounds_toArray, List.set_cons_zero, List.set_cons_succ]
    refine wpList_wanted (v := .int .i64 view) rfl rfl ?_
    simp only [Act.put, List.setIfInBounds_toArray, List.set_cons_zero, List.set_cons_succ]
    refine wpList_callg (vs := #[.int .i64 nodes, .int .i64 view]) e3 rfl rfl (vprim_any nodes view _) ?_
    rintro x W4 ⟨rfl, b4⟩
    refine ⟨_, rfl, ?_⟩
    have B4 := B3.trans (b4.mono B3.size)
    simp only [Act.put, List.setIfInBounds_toArray, List.set_cons_zero, List.set_cons_succ]
    refine wpList_wanted (v := .int .i64 nodes) rfl rfl ?_
    simp only [Act.put, List.setIfInBounds_toArray, List.set_cons_zero, List.set_cons_succ]
    refine wpList_wanted (v := .int .i64 view) rfl rfl ?_
    simp only [Act.put, List.setIfInBounds_toArray, List.set_cons_zero, List.set_cons_succ]
    refine wpList_callg (vs := #[.int .i64 nodes, .int .i64 view]) e4 rfl rfl (same_below (rprim_any nodes view _)) ?_
    rintro x W5 ⟨rfl, b5⟩
    refine ⟨_, rfl, ?_⟩
    have B5 := B4.trans (b5.mono B4.size)
    simp only [Act.put, List.setIfInBounds_toArray, List.set_cons_zero, List.set_cons_succ]
    refine wpList_wanted (v := .bool true) rfl (by simp only [execOp]; go_simp) ?_
    simp only [Act.put, List.setIfInBounds_toArray, List.set_cons_zero, List.set_cons_succ]
    refine wpList_pure (v := .bool true) rfl rfl ?_
    simp only [Act.put, List.setIfInBounds_toArray, List.set_cons_zero, List.set_cons_succ]
    refine wpList_pure (v := .bool true) rfl rfl ?_
    simp only [Act.put, List.setIfInBounds_toArray, List.set_cons_zero, List.set_cons_succ]
    refine wpList_wanted (v := .int .i64 nodes) rfl rfl ?_
    simp only [Act.put, List.setIfInBounds_toArray, List.set_cons_zero, List.set_cons_succ]
    refine wpList_wanted (v := .int .i64 view) rfl rfl ?_
    simp only [Act.put, List.setIfInBounds_toArray, List.set_cons_zero, List.set_cons_succ]
    refine wpList_wanted (v := .int .i64 id) rfl rfl ?_
    simp only [Act.put, List.setIfInBounds_toArray, List.set_cons_zero, List.set_cons_succ]
    refine wpList_callg (vs := #[.int .i64 nodes, .int .i64 view, .int .i64 id]) e5 rfl rfl (vnext_any nodes view id _) ?_
    rintro x W6 ⟨rfl, b6⟩
    refine ⟨_, rfl, ?_⟩
    have B6 := B5.trans (b6.mono B5.size)
    simp only [Act.put, List.setIfInBounds_toArray, List.set_cons_zero, List.set_cons_succ]
    refine wpList_wanted (v := .int .i64 nodes) rfl rfl ?_
    simp only [Act.put, List.setIfInBounds_toArray, List.set_cons_zero, List.set_cons_succ]
    refine wpList_wanted (v := .int .i64 view) rfl rfl ?_
    simp only [Act.put, List.setIfInBounds_toArray, List.set_cons_zero, List.set_cons_succ]
    refine wpList_wanted (v := .int .i64 id) rfl rfl ?_
    simp only [Act.put, List.setIfInBounds_toArray, List.set_cons_zero, List.set_cons_succ]
    refine wpList_callg (vs := #[.int .i64 nodes, .int .i64 view, .int .i64 id]) e6 rfl rfl (same_below (rnext_any nodes view id _)) ?_
    rintro x W7 ⟨rfl, b7⟩
    refine ⟨_, rfl, ?_⟩
    have B7 := B6.trans (b7.mono B6.size)
    simp only [Act.put, List.setIfInBounds_toArray, List.set_cons_zero, List.set_cons_succ]
    refine wpList_wanted (v := .bool true) rfl (by simp only [execOp]; go_simp) ?_
    simp only [Act.put, List.setIfInBounds_toArray, List.set_cons_zero, List.set_cons_succ]
    refine wpList_pure (v := .bool true) rfl rfl ?_
    simp only [Act.put, List.setIfInBounds_toArray, List.set_cons_zero, List.set_cons_succ]
    refine wpList_pure (v := .bool true) rfl rfl ?_
    simp only [Act.put, List.setIfInBounds_toArray, List.set_cons_zero, List.set_cons_succ]
    refine wpList_wanted (v := .int .i64 nodes) rfl rfl ?_
    simp only [Act.put, List.setIfInBounds_toArray, List.set_cons_zero, List.set_cons_succ]
    refine wpList_wanted (v := .slice A n c) rfl rfl ?_
    simp only [Act.put, List.setIfInBounds_toArray, List.set_cons_zero, List.set_cons_succ]
    refine wpList_callg (vs := #[.int .i64 nodes, .slice A n c]) e7 rfl rfl (venough_any (HR.out _ (by rw [HW0.out] at B7; exact B7)) (by omega) nodes) ?_
    rintro x W8 ⟨rfl, b8⟩
    refine ⟨_, rfl, ?_⟩
    have B8 := B7.trans (b8.mono B7.size)
    simp only [Act.put, List.setIfInBounds_toArray, List.set_cons_zero, List.set_cons_succ]
    refine wpList_wanted (v := .int .i64 nodes) rfl rfl ?_
    simp only [Act.put, List.setIfInBounds_toArray, List.set_cons_zero, List.set_cons_succ]
    refine wpList_wanted (v := .slice A n c) rfl rfl ?_
    simp only [Act.put, List.setIfInBounds_toArray, List.set_cons_zero, List.set_cons_succ]
    refine wpList_callg (vs := #[.int .i64 nodes, .slice A n c]) e8 rfl rfl (same_below (renough_any (HR.out _ (by rw [HW0.out] at B8; exact B8)) (by omega) nodes)) ?_
    rintro x W9 ⟨rfl, b9⟩
    refine ⟨_, rfl, ?_⟩
    have B9 := B8.trans (b9.mono B8.size)
    simp only [Act.put, List.setIfInBounds_toArray, List.set_cons_zero, List.set_cons_succ]
    refine wpList_wanted (v := .bool true) rfl (by simp only [execOp]; go_simp) ?_
    simp only [Act.put, List.setIfInBounds_toArray, List.set_cons_zero, List.set_cons_succ]
    refine wpList_pure (v := .bool true) rfl rfl ?_
    simp only [Act.put, List.setIfInBounds_toArray, List.set_cons_zero, List.set_cons_succ]
    refine wpList_pure (v := .bool true) rfl rfl (wpList_nil ?_)
    simp only [Act.put, List.setIfInBounds_toArray, List.set_cons_zero, List.set_cons_succ]
    have HF := Lib.hid (show Below w.heap.size w W9 by have := B9; rw [HW0.out] at this; exact this)
    clear B0 B1 B2 B3 B4 B5 B6 B7 B8 B9 e0 e1 e2 e3 e4 e5 e6 e7 e8
    go_wp2
    go_ret
    exact ⟨rfl, HF.out⟩
set_option maxHeartbeats 4000000 in
theorem viewsBest_walk (A : Option Addr) (n c : Nat) (l : List Vt) (w : World) (h : RdT w A n l) : Calls Try.prog 5 #[.slice A n c] w (Holds w) := by
  by_cases hn : 300 < n
  · have hni : (300 : Int) < (n : Int) := by omega
    clear h
    go_enter Try.func5, Try.ntmps5
    go_wp2
    go_ret
    exact ⟨rfl, Below.refl _ _⟩
  · have hni : ¬ ((300 : Int) < (n : Int)) := by omega
    have hr : ∀ W, Below w.heap.size w W → RdT W A n l := fun W b => h.below b
    have HR := Lib.hid hr
    clear h hr
    have e0 : ∀ args w, (callFunc 23 args).run Try.prog w = .ok (.enter 23 args) w := enters_of Try.func23 (by kernel_rfl) rfl
    have e1 : ∀ args w, (callFunc 24 args).run Try.prog w = .ok (.enter 24 args) w := enters_of Try.func24 (by kernel_rfl) rfl
    have e2 : ∀ args w, (callFunc 25 args).run Try.prog w = .ok (.enter 25 args) w := enters_of Try.func25 (by kernel_rfl) rfl
    obtain ⟨W0, hW0⟩ : ∃ W0, W0 = w := ⟨_, rfl⟩
    have B0 : Below W0.heap.size W0 w := by rw [hW0]; exact Below.refl _ _
    have HW0 := Lib.hid hW0
    clear hW0
    go_enter Try.func5, Try.ntmps5
    go_upto_region 3 with fail
    refine wp_region_list ?_
    refine wpList_call_run (vs := #[]) e0 rfl (best_any _) ?_
    rintro x W1 ⟨rfl, b1⟩
    refine ⟨_, rfl, ?_⟩
    have B1 := B0.trans (b1.mono B0.size)
    simp only [Act.put, List.setIfInBounds_toArray, List.set_cons_zero, List.set_cons_succ]
    refine wpList_pure (v := .bool true) rfl rfl ?_
    simp only [Act.put, List.setIfInBounds_toArray, List.set_cons_zero, List.set_cons_succ]
    refine wpList_wanted (v := .slice A n c) rfl rfl ?_
    simp only [Act.put, List.setIfInBounds_toArray, List.set_cons_zero, List.set_cons_succ]
    refine wpList_callg (vs := #[.slice A n c]) e1 rfl rfl (vbest_any (HR.out _ (by rw [HW0.out] at B1; exact B1)) (by omega)) ?_
    rintro x W2 ⟨rfl, b2⟩
    refine ⟨_, rfl, ?_⟩
    have B2 := B1.trans (b2.mono B1.size)
    simp only [Act.put, List.setIfInBounds_toArray, List.set_cons_zero, List.set_cons_succ]
    refine wpList_wanted (v := .slice A n c) rfl rfl ?_
    simp only [Act.put, List.setIfInBounds_toArray, List.set_cons_zero, List.set_cons_succ]
    refine wpList_callg (vs := #[.slice A n c]) e2 rfl rfl (rbest_any (HR.out _ (by rw [HW0.out] at B2; exact B2)) (by omega)) ?_
    rintro x W3 ⟨rfl, b3⟩
    refine ⟨_, rfl, ?_⟩
    have B3 := B2.trans (b3.mono B2.size)
    simp only [Act.put, List.setIfInBounds_toArray, List.set_cons_zero, List.set_cons_succ]
    refine wpList_wanted (v := .bool true) rfl (by simp only [execOp]; go_simp) ?_
    simp only [Act.put, List.setIfInBounds_toArray, List.set_cons_zero, List.set_cons_succ]
    refine wpList_pure (v := .bool true) rfl rfl ?_
    simp only [Act.put, List.setIfInBounds_toArray, List.set_cons_zero, List.set_cons_succ]
    refine wpList_pure (v := .bool true) rfl rfl (wpList_nil ?_)
    simp only [Act.put, List.setIfInBounds_toArray, List.set_cons_zero, List.set_cons_succ]
    have HF := Lib.hid (show Below w.heap.size w W3 by have := B3; rw [HW0.out] at this; exact this)
    clear B0 B1 B2 B3 e0 e1 e2
    go_wp2
    go_ret
    exact ⟨rfl, HF.out⟩
end Go.Proofs.Ytbfamijlaoopaaa

/-
  BagSames: the walk of the law.
-/
import Derived.Test.YtgkhjmdghmpfcaaBgAw
import Derived.Test.YtgkhjmdghmpfcaaBgArg
import Derived.Test.YtgkhjmdghmpfcaaHeldArm
namespace Go.Proofs.Ytgkhjmdghmpfcaa
open Go.RowKit

def BigPost (w : World) (m : Ms) (x : Ending) (w' : World) : Prop := ∃ b, x = .returned (.bool b) ∧ (b = false → SmallM m) ∧ Below w.heap.size w w'
set_option maxHeartbeats 1000000 in
theorem big_any (m : Ms) (e : Value) (w : World) (h : MsgR w (m, e)) : Calls Try.prog 16 #[mval m e] w (BigPost w m) := by
  obtain ⟨W1, x1, n1⟩ := box_new w m e
  obtain ⟨A, c, he, hr⟩ := h
  simp only at he
  have c8 : W1.cell? ⟨w.heap.size, 8, none⟩ = some e := n1.whole.cell 8
  have c11 : W1.cell? ⟨w.heap.size, 11, none⟩ = some (.string m.d) := n1.whole.cell 11
  rw [he] at c8
  obtain ⟨n, hn⟩ : ∃ n, n = m.es.length := ⟨_, rfl⟩
  rw [← hn] at c8
  have HN := Lib.hid hn
  have HB := Lib.hid n1.below
  clear n1 he hr hn
  by_cases h1 : 1000 < n
  · go_enter Try.func16, Try.ntmps16
    go_wp2_with (first | (refine wpList_box_run x1 rfl _ rfl rfl ?_))
    go_ret
    exact ⟨true, rfl, (fun q => by cases q), HB.out⟩
  · go_enter Try.func16, Try.ntmps16
    go_wp2_with (first | (refine wpList_box_run x1 rfl _ rfl rfl ?_))
    go_ret
    refine ⟨decide (1000 < (n : Int)) || decide (200000 < (m.d.size : Int)), rfl, (fun q => ?_), HB.out⟩
    simp only [Bool.or_eq_false_iff, decide_eq_false_iff_not] at q
    exact ⟨by rw [← HN.out]; omega, by omega⟩
theorem eqr_self (W : World) (q : Bool) : EqRun Try.prog 4 (.bool q) (.bool q) true W := fun X Y => by
  rw [eqr_bool W q q X Y]
  simp
set_option maxRecDepth 20000 in
set_option maxHeartbeats 4000000 in
theorem bagSames_walk (a b : Ms) (ea eb : Value) (w : World) (hma : MsgR w (a, ea)) (hmb : MsgR w (b, eb)) : Calls Try.prog 4 #[mval a ea, mval b eb] w (Holds w) := by
  obtain ⟨W1, W2, x1, x2, KA, KB, hB⟩ := same_pre a b ea eb w
  have HA := Lib.hid (hma.below hB)
  have HB := Lib.hid (hmb.below hB)
  have ld1 := load_box KA
  have ld2 := fun (W : World) (h : Below W2.heap.size W2 W) => load_box (KB.below h)
  have LA := Lib.hid (fun (W : World) (h : Below W2.heap.size W2 W) => load_box (KA.below h))
  have LB := Lib.hid ld2
  have H1 := big_any a ea W2 HA.out
  have H2 := Lib.hid (fun (W : World) (h : Below W2.heap.size W2 W) => big_any b eb W (HB.out.below h))
  have HBw := Lib.hid hB
  clear ld2 hma hmb KA KB hB
  go_enter Try.func4, Try.ntmps4
  go_upto_region 1 with (first | (refine wpList_box_run x1 rfl _ rfl rfl ?_) | (refine wpList_box_run x2 rfl _ rfl rfl ?_))
  clear x1 x2
  have eB : ∀ args w, (callFunc 16 args).run Try.prog w = .ok (.enter 16 args) w := enters_of Try.func16 (by kernel_rfl) rfl
  have e0 : ∀ args w, (callFunc 10 args).run Try.prog w = .ok (.enter 10 args) w := enters_of Try.func10 (by kernel_rfl) rfl
  have e1 : ∀ args w, (callFunc 17 args).run Try.prog w = .ok (.enter 17 args) w := enters_of Try.func17 (by kernel_rfl) rfl
  have e2 : ∀ args w, (callFunc 18 args).run Try.prog w = .ok (.enter 18 args) w := enters_of Try.func18 (by kernel_rfl) rfl
  have e3 : ∀ args w, (callFunc 19 args).run Try.prog w = .ok (.enter 19 args) w := enters_of Try.func19 (by kernel_rfl) rfl
  have mixed : Try.prog.follows .mixedOrders = true := by kernel_rfl
  refine wp_region_list ?_
  refine wpList_load_run ld1 rfl _ rfl rfl ?_
  simp only [Act.put, List.setIfInBounds_toArray, List.set_cons_zero, List.set_cons_succ]
  refine wpList_call_run (vs := #[mval a ea]) eB rfl H1 ?_
  rintro x W3 ⟨q1, rfl, hq1, b3⟩
  refine ⟨_, rfl, ?_⟩
  simp only [Act.put, List.setIfInBounds_toArray, List.set_cons_zero, List.set_cons_succ]
  refine wpList_pure (v := .bool q1) rfl rfl ?_
  simp only [Act.put, List.setIfInBounds_toArray, List.set_cons_zero, List.set_cons_succ]
  cases q1 with
  | true =>
    refine wpList_skip rfl (wpList_skip rfl ?_)
    simp only [Act.put, List.setIfInBounds_toArray, List.set_cons_zero, List.set_cons_succ]
    refine wpList_pure (v := .bool true) rfl rfl (wpList_nil ?_)
    simp only [Act.put, List.setIfInBounds_toArray, List.set_cons_zero, List.set_cons_succ]
    have HF := Lib.hid (HBw.out.trans (b3.mono HBw.out.size))
    clear H1 ld1 eB e0 e1 e2 e3 mixed b3
    go_wp2
    go_ret
    exact ⟨rfl, HF.out⟩
  | false =>
    refine wpList_wanted rfl (exec_load (x := .pointer (some ⟨w.heap.size + 1, 0, none⟩)) rfl (LB.out W3 b3)) ?_
    simp only [Act.put, List.setIfInBounds_toArray, List.set_cons_zero, List.set_cons_succ]
    refine wpList_callg (vs := #[mval b eb]) eB rfl rfl (H2.out W3 b3) ?_
    rintro x W4 ⟨q2, rfl, hq2, b4⟩
    refine ⟨_, rfl, ?_⟩
    simp only [Act.put, List.setIfInBounds_toArray, List.set_cons_zero, List.set_cons_succ]
    refine wpList_pure (v := .bool q2) rfl rfl (wpList_nil ?_)
    simp only [Act.put, List.setIfInBounds_toArray, List.set_cons_zero, List.set_cons_succ]
    have b24 := b3.trans (b4.mono b3.size)
    cases q2 with
    | true =>
      have HF := Lib.hid (HBw.out.trans (b24.mono HBw.out.size))
      clear H1 ld1 eB e0 e1 e2 e3 mixed b3 b4 b24
      go_wp2
      go_ret
      exact ⟨rfl, HF.out⟩
    | false =>
      have sma := hq1 rfl
      have ha2 : a.es.length ≤ 1000 := sma.1
      have ha1 : a.es.length ≤ 1000000 := by omega
      have SB := Lib.hid b24
      clear H1 ld1 eB b3 b4 b24 hq1 hq2
      go_upto_region 3 with (fail)
      refine wp_region_held (S := Below W2.heap.size W2) mixed ?_
      have SS : Below W2.heap.size W2 W4.drew := SB.out.drew
      clear SB
      have SB := Lib.hid SS
      clear SS
      refine h_call (i := 0) (d := 11) (vs := #[]) e0 rfl (by rfl) (by kernel_rfl) rfl (awake_any _) ?_
      rintro x W3 ⟨rfl, b3⟩
      refine ⟨_, rfl, SB.out.trans (b3.mono SB.out.size), ?_⟩
      simp only [List.setIfInBounds_toArray, List.set_cons_zero, List.set_cons_succ]
      have SS : Below W2.heap.size W2 W3 := SB.out.trans (b3.mono SB.out.size)
      refine h_take (i := 1) (d := 12) (v := .bool true) rfl rfl (by rfl) (by kernel_rfl) (by kernel_rfl) (by kernel_rfl) (fun _ _ _ h => h) SS (fun W h => exec_move rfl) ?_
      simp only [List.setIfInBounds_toArray, List.set_cons_zero, List.set_cons_succ]
      refine h_take (i := 2) (d := 13) (v := mval a ea) rfl rfl (by rfl) (by kernel_rfl) (by kernel_rfl) (by kernel_rfl) (fun _ _ _ h => h) SS (fun W h => exec_load (x := .pointer (some ⟨w.heap.size, 0, none⟩)) rfl (LA.out W h)) ?_
      simp only [List.setIfInBounds_toArray, List.set_cons_zero, List.set_cons_succ]
      refine h_take (i := 3) (d := 14) (v := mval b eb) rfl rfl (by rfl) (by kernel_rfl) (by kernel_rfl) (by kernel_rfl) (fun _ _ _ h => h) SS (fun W h => exec_load (x := .pointer (some ⟨w.heap.size + 1, 0, none⟩)) rfl (LB.out W h)) ?_
      simp only [List.setIfInBounds_toArray, List.set_cons_zero, List.set_cons_succ]
      refine h_take (i := 5) (d := 16) (v := mval a ea) rfl rfl (by rfl) (by kernel_rfl) (by kernel_rfl) (by kernel_rfl) (fun _ _ _ h => h) SS (fun W h => exec_load (x := .pointer (some ⟨w.heap.size, 0, none⟩)) rfl (LA.out W h)) ?_
      simp only [List.setIfInBounds_toArray, List.set_cons_zero, List.set_cons_succ]
      refine h_take (i := 6) (d := 17) (v := mval b eb) rfl rfl (by rfl) (by kernel_rfl) (by kernel_rfl) (by kernel_rfl) (fun _ _ _ h => h) SS (fun W h => exec_load (x := .pointer (some ⟨w.heap.size + 1, 0, none⟩)) rfl (LB.out W h)) ?_
      simp only [List.setIfInBounds_toArray, List.set_cons_zero, List.set_cons_succ]
      refine h_call (i := 4) (d := 15) (vs := #[mval a ea, mval b eb]) e1 rfl (by rfl) (by kernel_rfl) rfl (same_any a b ea eb _ (HA.out.below SS) (HB.out.below SS) ha1) ?_
      rintro x W4 ⟨rfl, b4⟩
      refine ⟨_, rfl, SS.trans (b4.mono SS.size), ?_⟩
      simp only [List.setIfInBounds_toArray, List.set_cons_zero, List.set_cons_succ]
      replace SS : Below W2.heap.size W2 W4 := SS.trans (b4.mono SS.size)
      refine h_call (i := 7) (d := 18) (vs := #[mval a ea, mval b eb]) e2 rfl (by rfl) (by kernel_rfl) rfl (refSame_any a b ea eb _ (HA.out.below SS) (HB.out.below SS) ha1) ?_
      rintro x W5 ⟨rfl, b5⟩
      refine ⟨_, rfl, SS.trans (b5.mono SS.size), ?_⟩
      simp only [List.setIfInBounds_toArray, List.set_cons_zero, List.set_cons_succ]
      replace SS : Below W2.heap.size W2 W5 := SS.trans (b5.mono SS.size)
      refine h_take (i := 8) (d := 19) (v := .bool true) rfl rfl (by rfl) (by kernel_rfl) (by kernel_rfl) (by kernel_rfl) (fun _ _ _ h => h) SS (fun W h => exec_eql (u1 := .bool (decide (a = b))) (u2 := .bool (decide (a = b))) rfl rfl (eqr_self W _)) ?_
      simp only [List.setIfInBounds_toArray, List.set_cons_zero, List.set_cons_succ]
      refine h_take (i := 9) (d := 20) (v := .bool true) rfl rfl (by rfl) (by kernel_rfl) (by kernel_rfl) (by kernel_rfl) (fun _ _ _ h => h) SS (fun W h => exec_pick (c := true) (q := true) rfl (fun _ => rfl)) ?_
      simp only [List.setIfInBounds_toArray, List.set_cons_zero, List.set_cons_succ]
      refine h_take (i := 10) (d := 21) (v := .bool true) rfl rfl (by rfl) (by kernel_rfl) (by kernel_rfl) (by kernel_rfl) (fun _ _ _ h => h) SS (fun W h => exec_move rfl) ?_
      simp only [List.setIfInBounds_toArray, List.set_cons_zero, List.set_cons_succ]
      refine h_take (i := 11) (d := 22) (v := mval a ea) rfl rfl (by rfl) (by kernel_rfl) (by kernel_rfl) (by kernel_rfl) (fun _ _ _ h => h) SS (fun W h => exec_load (x := .pointer (some ⟨w.heap.size, 0, none⟩)) rfl (LA.out W h)) ?_
      simp only [List.setIfInBounds_toArray, List.set_cons_zero, List.set_cons_succ]
      refine h_take (i := 12) (d := 23) (v := mval a ea) rfl rfl (by rfl) (by kernel_rfl) (by kernel_rfl) (by kernel_rfl) (fun _ _ _ h => h) SS (fun W h => exec_load (x := .pointer (some ⟨w.heap.size, 0, none⟩)) rfl (LA.out W h)) ?_
      simp only [List.setIfInBounds_toArray, List.set_cons_zero, List.set_cons_succ]
      refine h_call (i := 13) (d := 24) (vs := #[mval a ea, mval a ea]) e1 rfl (by rfl) (by kernel_rfl) rfl (same_any a a ea ea _ (HA.out.below SS) (HA.out.below SS) ha1) ?_
      rintro x W6 ⟨rfl, b6⟩
      refine ⟨_, rfl, SS.trans (b6.mono SS.size), ?_⟩
      simp only [List.setIfInBounds_toArray, List.set_cons_zero, List.set_cons_succ]
      replace SS : Below W2.heap.size W2 W6 := SS.trans (b6.mono SS.size)
      refine h_take (i := 14) (d := 25) (v := .bool true) rfl rfl (by rfl) (by kernel_rfl) (by kernel_rfl) (by kernel_rfl) (fun _ _ _ h => h) SS (fun W h => exec_pick (c := true) (q := true) rfl (fun _ => rfl)) ?_
      simp only [List.setIfInBounds_toArray, List.set_cons_zero, List.set_cons_succ]
      refine h_take (i := 15) (d := 26) (v := .bool true) rfl rfl (by rfl) (by kernel_rfl) (by kernel_rfl) (by kernel_rfl) (fun _ _ _ h => h) SS (fun W h => exec_move rfl) ?_
      simp only [List.setIfInBounds_toArray, List.set_cons_zero, List.set_cons_succ]
      refine h_take (i := 16) (d := 27) (v := mval a ea) rfl rfl (by rfl) (by kernel_rfl) (by kernel_rfl) (by kernel_rfl) (fun _ _ _ h => h) SS (fun W h => exec_load (x := .pointer (some ⟨w.heap.size, 0, none⟩)) rfl (LA.out W h)) ?_
      simp only [List.setIfInBounds_toArray, List.set_cons_zero, List.set_cons_succ]
      refine h_take (i := 18) (d := 29) (v := mval a ea) rfl rfl (by rfl) (by kernel_rfl) (by kernel_rfl) (by kernel_rfl) (fun _ _ _ h => h) SS (fun W h => exec_load (x := .pointer (some ⟨w.heap.size, 0, none⟩)) rfl (LA.out W h)) ?_
      simp only [List.setIfInBounds_toArray, List.set_cons_zero, List.set_cons_succ]
      refine h_call (i := 17) (d := 28) (vs := #[mval a ea]) e3 rfl (by rfl) (by kernel_rfl) rfl (refOwn_any a ea _ (HA.out.below SS) ha2) ?_
      rintro x W7 ⟨ve, rfl, hO, b7⟩
      refine ⟨_, rfl, SS.trans (b7.mono SS.size), ?_⟩
      simp only [List.setIfInBounds_toArray, List.set_cons_zero, List.set_cons_succ]
      replace SS : Below W2.heap.size W2 W7 := SS.trans (b7.mono SS.size)
      refine h_call (i := 19) (d := 30) (vs := #[mval a ve, mval a ea]) e1 rfl (by rfl) (by kernel_rfl) rfl (same_any a a ve ea _ (OwnE.msg (p := (a, ve)) hO) (HA.out.below SS) ha1) ?_
      rintro x W8 ⟨rfl, b8⟩
      refine ⟨_, rfl, SS.trans (b8.mono SS.size), ?_⟩
      simp only [List.setIfInBounds_toArray, List.set_cons_zero, List.set_cons_succ]
      replace SS : Below W2.heap.size W2 W8 := SS.trans (b8.mono SS.size)
      refine h_take (i := 20) (d := 31) (v := .bool true) rfl rfl (by rfl) (by kernel_rfl) (by kernel_rfl) (by kernel_rfl) (fun _ _ _ h => h) SS (fun W h => exec_pick (c := true) (q := true) rfl (fun _ => rfl)) ?_
      simp only [List.setIfInBounds_toArray, List.set_cons_zero, List.set_cons_succ]
      refine h_take (i := 21) (d := 4) (v := .bool true) rfl rfl (by rfl) (by kernel_rfl) (by kernel_rfl) (by kernel_rfl) (fun _ _ _ h => h) SS (fun W h => rfl) ?_
      simp only [List.setIfInBounds_toArray, List.set_cons_zero, List.set_cons_succ]
      refine wpAnyH_done (by kernel_rfl) ?_ _
      have HF := Lib.hid (HBw.out.trans (SS.mono HBw.out.size))
      clear SS SB e0 e1 e2 e3 mixed hO
      go_wp2
      go_ret
      exact ⟨rfl, HF.out⟩
end Go.Proofs.Ytgkhjmdghmpfcaa

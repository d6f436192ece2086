/-
  An operation has just these bytes, and comes back: the walk of the statement.
-/
import Derived.Test.YtlnmmklpccppmaaImLawOp
import Derived.Test.YtlnmmklpccppmaaRegion
namespace Go.Proofs.Ytlnmmklpccppmaa
open Go.RowKit

set_option maxHeartbeats 2000000 in
theorem imageOps_walk (ns : List Int) (hns : IsOp7 ns) (w : World) : Calls Try.prog 3 #[.agg (intvs ns).toArray] w (Holds w) := by
  obtain ⟨h7, hi⟩ := hns
  have hres := oRes_put h7 hi
  have Hput := Lib.hid (fun W => putOp_any ns h7 W)
  have Href := Lib.hid (fun W => refPutOp_any ns h7 W)
  obtain ⟨B, hB⟩ : ∃ B, B = ns.flatMap encI := ⟨_, rfl⟩
  have hBl : B.length = 56 := by rw [hB, flat_len encI_length, h7]
  rw [← hB] at hres Hput Href
  clear hB hi
  have Hres := Lib.hid hres
  clear hres
  obtain ⟨a0, a1, a2, a3, a4, a5, a6, rfl⟩ := list7i h7
  unfold intvs at *
  simp only [List.map_cons, List.map_nil] at *
  go_enter Try.func3, Try.ntmps3
  go_wp2_with fail
  have KO := Whole.new w #[.int .i64 a0, .int .i64 a1, .int .i64 a2, .int .i64 a3, .int .i64 a4, .int .i64 a5, .int .i64 a6] 24
  have B0 := (Below.refl w.heap.size w).alloc (Nat.le_refl _) (.cells #[.int .i64 a0, .int .i64 a1, .int .i64 a2, .int .i64 a3, .int .i64 a4, .int .i64 a5, .int .i64 a6] 24)
  generalize w.alloc (.cells #[.int .i64 a0, .int .i64 a1, .int .i64 a2, .int .i64 a3, .int .i64 a4, .int .i64 a5, .int .i64 a6] 24) = W at KO B0 ⊢
  refine Calls.mono (Hput.out W) ?_
  rintro e w1 ⟨v, rfl, hown, hb1⟩
  obtain ⟨A, c, rfl, hc, hm, hr1⟩ := hown.shapeN hBl
  go_wp2_with fail
  refine (getOp_any A 56 c B w1 hr1 (by omega)).mono ?_
  rintro e w2 ⟨hb2, he⟩
  rw [Hres.out] at he
  subst he
  simp only [intvs, List.map_cons, List.map_nil]
  go_wp2_with fail
  have KX := Whole.new w2 #[.int .i64 a0, .int .i64 a1, .int .i64 a2, .int .i64 a3, .int .i64 a4, .int .i64 a5, .int .i64 a6] 24
  have KO2 := ((KO.below hb1).below hb2).alloc (.cells #[.int .i64 a0, .int .i64 a1, .int .i64 a2, .int .i64 a3, .int .i64 a4, .int .i64 a5, .int .i64 a6] 24)
  have R2 := (hr1.below hb2).alloc (.cells #[.int .i64 a0, .int .i64 a1, .int .i64 a2, .int .i64 a3, .int .i64 a4, .int .i64 a5, .int .i64 a6] 24)
  have B1 := B0.trans (hb1.mono B0.size)
  have B2 := B1.trans (hb2.mono B1.size)
  have B3 := B2.alloc B2.size (.cells #[.int .i64 a0, .int .i64 a1, .int .i64 a2, .int .i64 a3, .int .i64 a4, .int .i64 a5, .int .i64 a6] 24)
  generalize w2.alloc (.cells #[.int .i64 a0, .int .i64 a1, .int .i64 a2, .int .i64 a3, .int .i64 a4, .int .i64 a5, .int .i64 a6] 24) = W2 at KX KO2 R2 B3 ⊢
  have HF := Lib.hid (And.intro KX (And.intro KO2 (And.intro R2 B3)))
  clear KX KO2 R2 B3 B2 B1 hb2 hb1 hown hr1 B0 KO Hput Hres
  -- the last region
  refine wp_region_any (by kernel_rfl) ?_
  change wpAny _ _ _ _ _ _ _ (World.drew _)
  refine wpAny_ready (rs := [0]) (by kernel_rfl) (by simp) ?_
  refine AllReady.cons rfl (fun K hK => ?_) (AllReady.nil)
  go_simp
  go_wp2_with (go_at_call 6; refine Calls.mono (ops_holds _) ?_; rintro e wq1 ⟨rfl, bq1⟩)
  have bb1 : Below W2.heap.size W2 wq1 := (Below.refl _ W2).drew.trans bq1
  refine take_put (i := 1) (d := 14) (v := ?_) rfl rfl (by kernel_rfl) (by kernel_rfl) (by kernel_rfl) (fun _ _ _ h => h) (Or.inl ⟨by rfl, ?_⟩) ?_
  rotate_left
  · intro w; go_simp; with_reducible rfl
  conv =>
    arg 7
    simp only [List.setIfInBounds_toArray, List.set_cons_succ, List.set_cons_zero]
  refine take_put (i := 2) (d := 15) (v := ?_) rfl rfl (by kernel_rfl) (by kernel_rfl) (by kernel_rfl) (fun _ _ _ h => h) (Or.inl ⟨by rfl, ?_⟩) ?_
  rotate_left
  · intro w; go_simp; with_reducible rfl
  conv =>
    arg 7
    simp only [List.setIfInBounds_toArray, List.set_cons_succ, List.set_cons_zero]
  refine wpAny_ready (rs := [3, 4]) (by kernel_rfl) (by simp) ?_
  refine AllReady.cons rfl (fun K hK => ?_) (AllReady.cons rfl (fun K hK => ?_) (AllReady.nil))
  · skip
    have k2 := (HF.out.2.2.1.below bb1).conv (P := Try.prog) c 25 5 9 Try.underlying25 Try.underlying5 Try.underlying9
    go_simp
    refine hK _ _ ?_
    clear hK K
    clear k2
    refine wpAny_ready (rs := [4]) (by kernel_rfl) (by simp) ?_
    refine AllReady.cons rfl (fun K hK => ?_) (AllReady.nil)
    have o0_3 := (HF.out.2.1.below bb1).cell 0
    have o1_3 := (HF.out.2.1.below bb1).cell 1
    have o2_3 := (HF.out.2.1.below bb1).cell 2
    have o3_3 := (HF.out.2.1.below bb1).cell 3
    have o4_3 := (HF.out.2.1.below bb1).cell 4
    have o5_3 := (HF.out.2.1.below bb1).cell 5
    have o6_3 := (HF.out.2.1.below bb1).cell 6
    go_simp
    refine hK _ _ ?_
    clear hK K
    clear o0_3 o1_3 o2_3 o3_3 o4_3 o5_3 o6_3
    refine wpAny_ready (rs := [5]) (by kernel_rfl) (by simp) ?_
    refine AllReady.cons rfl (fun K hK => ?_) (AllReady.nil)
    go_simp
    go_wp2_with (go_at_call 7; refine Calls.mono (Href.out _) ?_; rintro e wq4 ⟨v4, rfl, o4, bq4⟩)
    obtain ⟨A4, c4, rfl, _, _, r4⟩ := o4.shapeN hBl
    have bb4 : Below W2.heap.size W2 wq4 := bb1.trans (bq4.mono bb1.size)
    refine wpAny_ready (rs := [6]) (by kernel_rfl) (by simp) ?_
    refine AllReady.cons rfl (fun K hK => ?_) (AllReady.nil)
    have k5 := r4.conv (P := Try.prog) c4 25 5 9 Try.underlying25 Try.underlying5 Try.underlying9
    go_simp
    refine hK _ _ ?_
    clear hK K
    clear k5
    refine take_put (i := 7) (d := 20) (v := ?_) rfl rfl (by kernel_rfl) (by kernel_rfl) (by kernel_rfl) (fun _ _ _ h => h) (Or.inl ⟨by rfl, ?_⟩) ?_
    rotate_left
    · intro w; go_simp; with_reducible rfl
    conv =>
      arg 7
      simp only [List.setIfInBounds_toArray, List.set_cons_succ, List.set_cons_zero]
    refine take_put (i := 8) (d := 21) (v := ?_) rfl rfl (by kernel_rfl) (by kernel_rfl) (by kernel_rfl) (fun _ _ _ h => h) (Or.inl ⟨by rfl, ?_⟩) ?_
    rotate_left
    · intro w; go_simp; with_reducible rfl
    conv =>
      arg 7
      simp only [List.setIfInBounds_toArray, List.set_cons_succ, List.set_cons_zero]
    refine take_put (i := 9) (d := 22) (v := ?_) rfl rfl (by kernel_rfl) (by kernel_rfl) (by kernel_rfl) (fun _ _ _ h => h) (Or.inl ⟨by rfl, ?_⟩) ?_
    rotate_left
    · intro w; go_simp; with_reducible rfl
    conv =>
      arg 7
      simp only [List.setIfInBounds_toArray, List.set_cons_succ, List.set_cons_zero]
    refine take_put (i := 10) (d := 23) (v := ?_) rfl rfl (by kernel_rfl) (by kernel_rfl) (by kernel_rfl) (fun _ _ _ h => h) (Or.inl ⟨by rfl, ?_⟩) ?_
    rotate_left
    · intro w; go_simp; with_reducible rfl
    conv =>
      arg 7
      simp only [List.setIfInBounds_toArray, List.set_cons_succ, List.set_cons_zero]
    refine take_put (i := 11) (d := 24) (v := ?_) rfl rfl (by kernel_rfl) (by kernel_rfl) (by kernel_rfl) (fun _ _ _ h => h) (Or.inl ⟨by rfl, ?_⟩) ?_
    rotate_left
    · intro w; go_simp; with_reducible rfl
    conv =>
      arg 7
      simp only [List.setIfInBounds_toArray, List.set_cons_succ, List.set_cons_zero]
    refine take_put (i := 12) (d := 25) (v := ?_) rfl rfl (by kernel_rfl) (by kernel_rfl) (by kernel_rfl) (fun _ _ _ h => h) (Or.inl ⟨by rfl, ?_⟩) ?_
    rotate_left
    · intro w; go_simp; with_reducible rfl
    conv =>
      arg 7
      simp only [List.setIfInBounds_toArray, List.set_cons_succ, List.set_cons_zero]
    refine take_put (i := 13) (d := 26) (v := ?_) rfl rfl (by kernel_rfl) (by kernel_rfl) (by kernel_rfl) (fun _ _ _ h => h) (Or.inl ⟨by rfl, ?_⟩) ?_
    rotate_left
    · intro w; go_simp; with_reducible rfl
    conv =>
      arg 7
      simp only [List.setIfInBounds_toArray, List.set_cons_succ, List.set_cons_zero]
    refine wpAny_ready (rs := [14, 15]) (by kernel_rfl) (by simp) ?_
    refine AllReady.cons rfl (fun K hK => ?_) (AllReady.cons rfl (fun K hK => ?_) (AllReady.nil))
    · skip
      have o0_6 := (HF.out.1.below bb4).cell 0
      have o1_6 := (HF.out.1.below bb4).cell 1
      have o2_6 := (HF.out.1.below bb4).cell 2
      have o3_6 := (HF.out.1.below bb4).cell 3
      have o4_6 := (HF.out.1.below bb4).cell 4
      have o5_6 := (HF.out.1.below bb4).cell 5
      have o6_6 := (HF.out.1.below bb4).cell 6
      go_simp
      refine hK _ _ ?_
      clear hK K
      clear o0_6 o1_6 o2_6 o3_6 o4_6 o5_6 o6_6
      refine wpAny_ready (rs := [15]) (by kernel_rfl) (by simp) ?_
      refine AllReady.cons rfl (fun K hK => ?_) (AllReady.nil)
      have o0_7 := (HF.out.2.1.below bb4).cell 0
      have o1_7 := (HF.out.2.1.below bb4).cell 1
      have o2_7 := (HF.out.2.1.below bb4).cell 2
      have o3_7 := (HF.out.2.1.below bb4).cell 3
      have o4_7 := (HF.out.2.1.below bb4).cell 4
      have o5_7 := (HF.out.2.1.below bb4).cell 5
      have o6_7 := (HF.out.2.1.below bb4).cell 6
      go_simp
      refine hK _ _ ?_
      clear hK K
      clear o0_7 o1_7 o2_7 o3_7 o4_7 o5_7 o6_7
      refine take_put (i := 16) (d := 29) (v := ?_) rfl rfl (by kernel_rfl) (by kernel_rfl) (by kernel_rfl) (fun _ _ _ h => h) (Or.inl ⟨by rfl, ?_⟩) ?_
      rotate_left
      · intro w; go_simp; with_reducible rfl
      conv =>
        arg 7
        simp only [List.setIfInBounds_toArray, List.set_cons_succ, List.set_cons_zero]
      refine take_put (i := 17) (d := 30) (v := ?_) rfl rfl (by kernel_rfl) (by kernel_rfl) (by kernel_rfl) (fun _ _ _ h => h) (Or.inl ⟨by rfl, ?_⟩) ?_
      rotate_left
      · intro w; go_simp; with_reducible rfl
      conv =>
        arg 7
        simp only [List.setIfInBounds_toArray, List.set_cons_succ, List.set_cons_zero]
      refine take_put (i := 18) (d := 2) (v := ?_) rfl rfl (by kernel_rfl) (by kernel_rfl) (by kernel_rfl) (fun _ _ _ h => h) (Or.inl ⟨by rfl, ?_⟩) ?_
      rotate_left
      · intro w; go_simp; with_reducible rfl
      conv =>
        arg 7
        simp only [List.setIfInBounds_toArray, List.set_cons_succ, List.set_cons_zero]
      refine wpAny_done (by kernel_rfl) ?_ _
      go_wp2
      go_ret
      exact ⟨rfl, HF.out.2.2.2.trans (bb4.mono HF.out.2.2.2.size)⟩
    · skip
      have o0_8 := (HF.out.2.1.below bb4).cell 0
      have o1_8 := (HF.out.2.1.below bb4).cell 1
      have o2_8 := (HF.out.2.1.below bb4).cell 2
      have o3_8 := (HF.out.2.1.below bb4).cell 3
      have o4_8 := (HF.out.2.1.below bb4).cell 4
      have o5_8 := (HF.out.2.1.below bb4).cell 5
      have o6_8 := (HF.out.2.1.below bb4).cell 6
      go_simp
      refine hK _ _ ?_
      clear hK K
      clear o0_8 o1_8 o2_8 o3_8 o4_8 o5_8 o6_8
      refine wpAny_ready (rs := [14]) (by kernel_rfl) (by simp) ?_
      refine AllReady.cons rfl (fun K hK => ?_) (AllReady.nil)
      have o0_9 := (HF.out.1.below bb4).cell 0
      have o1_9 := (HF.out.1.below bb4).cell 1
      have o2_9 := (HF.out.1.below bb4).cell 2
      have o3_9 := (HF.out.1.below bb4).cell 3
      have o4_9 := (HF.out.1.below bb4).cell 4
      have o5_9 := (HF.out.1.below bb4).cell 5
      have o6_9 := (HF.out.1.below bb4).cell 6
      go_simp
      refine hK _ _ ?_
      clear hK K
      clear o0_9 o1_9 o2_9 o3_9 o4_9 o5_9 o6_9
      refine take_put (i := 16) (d := 29) (v := ?_) rfl rfl (by kernel_rfl) (by kernel_rfl) (by kernel_rfl) (fun _ _ _ h => h) (Or.inl ⟨by rfl, ?_⟩) ?_
      rotate_left
      · intro w; go_simp; with_reducible rfl
      conv =>
        arg 7
        simp only [List.setIfInBounds_toArray, List.set_cons_succ, List.set_cons_zero]
      refine take_put (i := 17) (d := 30) (v := ?_) rfl rfl (by kernel_rfl) (by kernel_rfl) (by kernel_rfl) (fun _ _ _ h => h) (Or.inl ⟨by rfl, ?_⟩) ?_
      rotate_left
      · intro w; go_simp; with_reducible rfl
      conv =>
        arg 7
        simp only [List.setIfInBounds_toArray, List.set_cons_succ, List.set_cons_zero]
      refine take_put (i := 18) (d := 2) (v := ?_) rfl rfl (by kernel_rfl) (by kernel_rfl) (by kernel_rfl) (fun _ _ _ h => h) (Or.inl ⟨by rfl, ?_⟩) ?_
      rotate_left
      · intro w; go_simp; with_reducible rfl
      conv =>
        arg 7
        simp only [List.setIfInBounds_toArray, List.set_cons_succ, List.set_cons_zero]
      refine wpAny_done (by kernel_rfl) ?_ _
      go_wp2
      go_ret
      exact ⟨rfl, HF.out.2.2.2.trans (bb4.mono HF.out.2.2.2.size)⟩
  · skip
    have o0_10 := (HF.out.2.1.below bb1).cell 0
    have o1_10 := (HF.out.2.1.below bb1).cell 1
    have o2_10 := (HF.out.2.1.below bb1).cell 2
    have o3_10 := (HF.out.2.1.below bb1).cell 3
    have o4_10 := (HF.out.2.1.below bb1).cell 4
    have o5_10 := (HF.out.2.1.below bb1).cell 5
    have o6_10 := (HF.out.2.1.below bb1).cell 6
    go_simp
    refine hK _ _ ?_
    clear hK K
    clear o0_10 o1_10 o2_10 o3_10 o4_10 o5_10 o6_10
    refine wpAny_ready (rs := [3, 5]) (by kernel_rfl) (by simp) ?_
    refine AllReady.cons rfl (fun K hK => ?_) (AllReady.cons rfl (fun K hK => ?_) (AllReady.nil))
    · skip
      have k11 := (HF.out.2.2.1.below bb1).conv (P := Try.prog) c 25 5 9 Try.underlying25 Try.underlying5 Try.underlying9
      go_simp
      refine hK _ _ ?_
      clear hK K
      clear k11
      refine wpAny_ready (rs := [5]) (by kernel_rfl) (by simp) ?_
      refine AllReady.cons rfl (fun K hK => ?_) (AllReady.nil)
      go_simp
      go_wp2_with (go_at_call 7; refine Calls.mono (Href.out _) ?_; rintro e wq12 ⟨v12, rfl, o12, bq12⟩)
      obtain ⟨A12, c12, rfl, _, _, r12⟩ := o12.shapeN hBl
      have bb12 : Below W2.heap.size W2 wq12 := bb1.trans (bq12.mono bb1.size)
      refine wpAny_ready (rs := [6]) (by kernel_rfl) (by simp) ?_
      refine AllReady.cons rfl (fun K hK => ?_) (AllReady.nil)
      have k13 := r12.conv (P := Try.prog) c12 25 5 9 Try.underlying25 Try.underlying5 Try.underlying9
      go_simp
      refine hK _ _ ?_
      clear hK K
      clear k13
      refine take_put (i := 7) (d := 20) (v := ?_) rfl rfl (by kernel_rfl) (by kernel_rfl) (by kernel_rfl) (fun _ _ _ h => h) (Or.inl ⟨by rfl, ?_⟩) ?_
      rotate_left
      · intro w; go_simp; with_reducible rfl
      conv =>
        arg 7
        simp only [List.setIfInBounds_toArray, List.set_cons_succ, List.set_cons_zero]
      refine take_put (i := 8) (d := 21) (v := ?_) rfl rfl (by kernel_rfl) (by kernel_rfl) (by kernel_rfl) (fun _ _ _ h => h) (Or.inl ⟨by rfl, ?_⟩) ?_
      rotate_left
      · intro w; go_simp; with_reducible rfl
      conv =>
        arg 7
        simp only [List.setIfInBounds_toArray, List.set_cons_succ, List.set_cons_zero]
      refine take_put (i := 9) (d := 22) (v := ?_) rfl rfl (by kernel_rfl) (by kernel_rfl) (by kernel_rfl) (fun _ _ _ h => h) (Or.inl ⟨by rfl, ?_⟩) ?_
      rotate_left
      · intro w; go_simp; with_reducible rfl
      conv =>
        arg 7
        simp only [List.setIfInBounds_toArray, List.set_cons_succ, List.set_cons_zero]
      refine take_put (i := 10) (d := 23) (v := ?_) rfl rfl (by kernel_rfl) (by kernel_rfl) (by kernel_rfl) (fun _ _ _ h => h) (Or.inl ⟨by rfl, ?_⟩) ?_
      rotate_left
      · intro w; go_simp; with_reducible rfl
      conv =>
        arg 7
        simp only [List.setIfInBounds_toArray, List.set_cons_succ, List.set_cons_zero]
      refine take_put (i := 11) (d := 24) (v := ?_) rfl rfl (by kernel_rfl) (by kernel_rfl) (by kernel_rfl) (fun _ _ _ h => h) (Or.inl ⟨by rfl, ?_⟩) ?_
      rotate_left
      · intro w; go_simp; with_reducible rfl
      conv =>
        arg 7
        simp only [List.setIfInBounds_toArray, List.set_cons_succ, List.set_cons_zero]
      refine take_put (i := 12) (d := 25) (v := ?_) rfl rfl (by kernel_rfl) (by kernel_rfl) (by kernel_rfl) (fun _ _ _ h => h) (Or.inl ⟨by rfl, ?_⟩) ?_
      rotate_left
      · intro w; go_simp; with_reducible rfl
      conv =>
        arg 7
        simp only [List.setIfInBounds_toArray, List.set_cons_succ, List.set_cons_zero]
      refine take_put (i := 13) (d := 26) (v := ?_) rfl rfl (by kernel_rfl) (by kernel_rfl) (by kernel_rfl) (fun _ _ _ h => h) (Or.inl ⟨by rfl, ?_⟩) ?_
      rotate_left
      · intro w; go_simp; with_reducible rfl
      conv =>
        arg 7
        simp only [List.setIfInBounds_toArray, List.set_cons_succ, List.set_cons_zero]
      refine wpAny_ready (rs := [14, 15]) (by kernel_rfl) (by simp) ?_
      refine AllReady.cons rfl (fun K hK => ?_) (AllReady.cons rfl (fun K hK => ?_) (AllReady.nil))
      · skip
        have o0_14 := (HF.out.1.below bb12).cell 0
        have o1_14 := (HF.out.1.below bb12).cell 1
        have o2_14 := (HF.out.1.below bb12).cell 2
        have o3_14 := (HF.out.1.below bb12).cell 3
        have o4_14 := (HF.out.1.below bb12).cell 4
        have o5_14 := (HF.out.1.below bb12).cell 5
        have o6_14 := (HF.out.1.below bb12).cell 6
        go_simp
        refine hK _ _ ?_
        clear hK K
        clear o0_14 o1_14 o2_14 o3_14 o4_14 o5_14 o6_14
        refine wpAny_ready (rs := [15]) (by kernel_rfl) (by simp) ?_
        refine AllReady.cons rfl (fun K hK => ?_) (AllReady.nil)
        have o0_15 := (HF.out.2.1.below bb12).cell 0
        have o1_15 := (HF.out.2.1.below bb12).cell 1
        have o2_15 := (HF.out.2.1.below bb12).cell 2
        have o3_15 := (HF.out.2.1.below bb12).cell 3
        have o4_15 := (HF.out.2.1.below bb12).cell 4
        have o5_15 := (HF.out.2.1.below bb12).cell 5
        have o6_15 := (HF.out.2.1.below bb12).cell 6
        go_simp
        refine hK _ _ ?_
        clear hK K
        clear o0_15 o1_15 o2_15 o3_15 o4_15 o5_15 o6_15
        refine take_put (i := 16) (d := 29) (v := ?_) rfl rfl (by kernel_rfl) (by kernel_rfl) (by kernel_rfl) (fun _ _ _ h => h) (Or.inl ⟨by rfl, ?_⟩) ?_
        rotate_left
        · intro w; go_simp; with_reducible rfl
        conv =>
          arg 7
          simp only [List.setIfInBounds_toArray, List.set_cons_succ, List.set_cons_zero]
        refine take_put (i := 17) (d := 30) (v := ?_) rfl rfl (by kernel_rfl) (by kernel_rfl) (by kernel_rfl) (fun _ _ _ h => h) (Or.inl ⟨by rfl, ?_⟩) ?_
        rotate_left
        · intro w; go_simp; with_reducible rfl
        conv =>
          arg 7
          simp only [List.setIfInBounds_toArray, List.set_cons_succ, List.set_cons_zero]
        refine take_put (i := 18) (d := 2) (v := ?_) rfl rfl (by kernel_rfl) (by kernel_rfl) (by kernel_rfl) (fun _ _ _ h => h) (Or.inl ⟨by rfl, ?_⟩) ?_
        rotate_left
        · intro w; go_simp; with_reducible rfl
        conv =>
          arg 7
          simp only [List.setIfInBounds_toArray, List.set_cons_succ, List.set_cons_zero]
        refine wpAny_done (by kernel_rfl) ?_ _
        go_wp2
        go_ret
        exact ⟨rfl, HF.out.2.2.2.trans (bb12.mono HF.out.2.2.2.size)⟩
      · skip
        have o0_16 := (HF.out.2.1.below bb12).cell 0
        have o1_16 := (HF.out.2.1.below bb12).cell 1
        have o2_16 := (HF.out.2.1.below bb12).cell 2
        have o3_16 := (HF.out.2.1.below bb12).cell 3
        have o4_16 := (HF.out.2.1.below bb12).cell 4
        have o5_16 := (HF.out.2.1.below bb12).cell 5
        have o6_16 := (HF.out.2.1.below bb12).cell 6
        go_simp
        refine hK _ _ ?_
        clear hK K
        clear o0_16 o1_16 o2_16 o3_16 o4_16 o5_16 o6_16
        refine wpAny_ready (rs := [14]) (by kernel_rfl) (by simp) ?_
        refine AllReady.cons rfl (fun K hK => ?_) (AllReady.nil)
        have o0_17 := (HF.out.1.below bb12).cell 0
        have o1_17 := (HF.out.1.below bb12).cell 1
        have o2_17 := (HF.out.1.below bb12).cell 2
        have o3_17 := (HF.out.1.below bb12).cell 3
        have o4_17 := (HF.out.1.below bb12).cell 4
        have o5_17 := (HF.out.1.below bb12).cell 5
        have o6_17 := (HF.out.1.below bb12).cell 6
        go_simp
        refine hK _ _ ?_
        clear hK K
        clear o0_17 o1_17 o2_17 o3_17 o4_17 o5_17 o6_17
        refine take_put (i := 16) (d := 29) (v := ?_) rfl rfl (by kernel_rfl) (by kernel_rfl) (by kernel_rfl) (fun _ _ _ h => h) (Or.inl ⟨by rfl, ?_⟩) ?_
        rotate_left
        · intro w; go_simp; with_reducible rfl
        conv =>
          arg 7
          simp only [List.setIfInBounds_toArray, List.set_cons_succ, List.set_cons_zero]
        refine take_put (i := 17) (d := 30) (v := ?_) rfl rfl (by kernel_rfl) (by kernel_rfl) (by kernel_rfl) (fun _ _ _ h => h) (Or.inl ⟨by rfl, ?_⟩) ?_
        rotate_left
        · intro w; go_simp; with_reducible rfl
        conv =>
          arg 7
          simp only [List.setIfInBounds_toArray, List.set_cons_succ, List.set_cons_zero]
        refine take_put (i := 18) (d := 2) (v := ?_) rfl rfl (by kernel_rfl) (by kernel_rfl) (by kernel_rfl) (fun _ _ _ h => h) (Or.inl ⟨by rfl, ?_⟩) ?_
        rotate_left
        · intro w; go_simp; with_reducible rfl
        conv =>
          arg 7
          simp only [List.setIfInBounds_toArray, List.set_cons_succ, List.set_cons_zero]
        refine wpAny_done (by kernel_rfl) ?_ _
        go_wp2
        go_ret
        exact ⟨rfl, HF.out.2.2.2.trans (bb12.mono HF.out.2.2.2.size)⟩
    · skip
      go_simp
      go_wp2_with (go_at_call 7; refine Calls.mono (Href.out _) ?_; rintro e wq18 ⟨v18, rfl, o18, bq18⟩)
      obtain ⟨A18, c18, rfl, _, _, r18⟩ := o18.shapeN hBl
      have bb18 : Below W2.heap.size W2 wq18 := bb1.trans (bq18.mono bb1.size)
      refine wpAny_ready (rs := [3, 6]) (by kernel_rfl) (by simp) ?_
      refine AllReady.cons rfl (fun K hK => ?_) (AllReady.cons rfl (fun K hK => ?_) (AllReady.nil))
      · skip
        have k19 := (HF.out.2.2.1.below bb18).conv (P := Try.prog) c 25 5 9 Try.underlying25 Try.underlying5 Try.underlying9
        go_simp
        refine hK _ _ ?_
        clear hK K
        clear k19
        refine wpAny_ready (rs := [6]) (by kernel_rfl) (by simp) ?_
        refine AllReady.cons rfl (fun K hK => ?_) (AllReady.nil)
        have k20 := r18.conv (P := Try.prog) c18 25 5 9 Try.underlying25 Try.underlying5 Try.underlying9
        go_simp
        refine hK _ _ ?_
        clear hK K
        clear k20
        refine take_put (i := 7) (d := 20) (v := ?_) rfl rfl (by kernel_rfl) (by kernel_rfl) (by kernel_rfl) (fun _ _ _ h => h) (Or.inl ⟨by rfl, ?_⟩) ?_
        rotate_left
        · intro w; go_simp; with_reducible rfl
        conv =>
          arg 7
          simp only [List.setIfInBounds_toArray, List.set_cons_succ, List.set_cons_zero]
        refine take_put (i := 8) (d := 21) (v := ?_) rfl rfl (by kernel_rfl) (by kernel_rfl) (by kernel_rfl) (fun _ _ _ h => h) (Or.inl ⟨by rfl, ?_⟩) ?_
        rotate_left
        · intro w; go_simp; with_reducible rfl
        conv =>
          arg 7
          simp only [List.setIfInBounds_toArray, List.set_cons_succ, List.set_cons_zero]
        refine take_put (i := 9) (d := 22) (v := ?_) rfl rfl (by kernel_rfl) (by kernel_rfl) (by kernel_rfl) (fun _ _ _ h => h) (Or.inl ⟨by rfl, ?_⟩) ?_
        rotate_left
        · intro w; go_simp; with_reducible rfl
        conv =>
          arg 7
          simp only [List.setIfInBounds_toArray, List.set_cons_succ, List.set_cons_zero]
        refine take_put (i := 10) (d := 23) (v := ?_) rfl rfl (by kernel_rfl) (by kernel_rfl) (by kernel_rfl) (fun _ _ _ h => h) (Or.inl ⟨by rfl, ?_⟩) ?_
        rotate_left
        · intro w; go_simp; with_reducible rfl
        conv =>
          arg 7
          simp only [List.setIfInBounds_toArray, List.set_cons_succ, List.set_cons_zero]
        refine take_put (i := 11) (d := 24) (v := ?_) rfl rfl (by kernel_rfl) (by kernel_rfl) (by kernel_rfl) (fun _ _ _ h => h) (Or.inl ⟨by rfl, ?_⟩) ?_
        rotate_left
        · intro w; go_simp; with_reducible rfl
        conv =>
          arg 7
          simp only [List.setIfInBounds_toArray, List.set_cons_succ, List.set_cons_zero]
        refine take_put (i := 12) (d := 25) (v := ?_) rfl rfl (by kernel_rfl) (by kernel_rfl) (by kernel_rfl) (fun _ _ _ h => h) (Or.inl ⟨by rfl, ?_⟩) ?_
        rotate_left
        · intro w; go_simp; with_reducible rfl
        conv =>
          arg 7
          simp only [List.setIfInBounds_toArray, List.set_cons_succ, List.set_cons_zero]
        refine take_put (i := 13) (d := 26) (v := ?_) rfl rfl (by kernel_rfl) (by kernel_rfl) (by kernel_rfl) (fun _ _ _ h => h) (Or.inl ⟨by rfl, ?_⟩) ?_
        rotate_left
        · intro w; go_simp; with_reducible rfl
        conv =>
          arg 7
          simp only [List.setIfInBounds_toArray, List.set_cons_succ, List.set_cons_zero]
        refine wpAny_ready (rs := [14, 15]) (by kernel_rfl) (by simp) ?_
        refine AllReady.cons rfl (fun K hK => ?_) (AllReady.cons rfl (fun K hK => ?_) (AllReady.nil))
        · skip
          have o0_21 := (HF.out.1.below bb18).cell 0
          have o1_21 := (HF.out.1.below bb18).cell 1
          have o2_21 := (HF.out.1.below bb18).cell 2
          have o3_21 := (HF.out.1.below bb18).cell 3
          have o4_21 := (HF.out.1.below bb18).cell 4
          have o5_21 := (HF.out.1.below bb18).cell 5
          have o6_21 := (HF.out.1.below bb18).cell 6
          go_simp
          refine hK _ _ ?_
          clear hK K
          clear o0_21 o1_21 o2_21 o3_21 o4_21 o5_21 o6_21
          refine wpAny_ready (rs := [15]) (by kernel_rfl) (by simp) ?_
          refine AllReady.cons rfl (fun K hK => ?_) (AllReady.nil)
          have o0_22 := (HF.out.2.1.below bb18).cell 0
          have o1_22 := (HF.out.2.1.below bb18).cell 1
          have o2_22 := (HF.out.2.1.below bb18).cell 2
          have o3_22 := (HF.out.2.1.below bb18).cell 3
          have o4_22 := (HF.out.2.1.below bb18).cell 4
          have o5_22 := (HF.out.2.1.below bb18).cell 5
          have o6_22 := (HF.out.2.1.below bb18).cell 6
          go_simp
          refine hK _ _ ?_
          clear hK K
          clear o0_22 o1_22 o2_22 o3_22 o4_22 o5_22 o6_22
          refine take_put (i := 16) (d := 29) (v := ?_) rfl rfl (by kernel_rfl) (by kernel_rfl) (by kernel_rfl) (fun _ _ _ h => h) (Or.inl ⟨by rfl, ?_⟩) ?_
          rotate_left
          · intro w; go_simp; with_reducible rfl
          conv =>
            arg 7
            simp only [List.setIfInBounds_toArray, List.set_cons_succ, List.set_cons_zero]
          refine take_put (i := 17) (d := 30) (v := ?_) rfl rfl (by kernel_rfl) (by kernel_rfl) (by kernel_rfl) (fun _ _ _ h => h) (Or.inl ⟨by rfl, ?_⟩) ?_
          rotate_left
          · intro w; go_simp; with_reducible rfl
          conv =>
            arg 7
            simp only [List.setIfInBounds_toArray, List.set_cons_succ, List.set_cons_zero]
          refine take_put (i := 18) (d := 2) (v := ?_) rfl rfl (by kernel_rfl) (by kernel_rfl) (by kernel_rfl) (fun _ _ _ h => h) (Or.inl ⟨by rfl, ?_⟩) ?_
          rotate_left
          · intro w; go_simp; with_reducible rfl
          conv =>
            arg 7
            simp only [List.setIfInBounds_toArray, List.set_cons_succ, List.set_cons_zero]
          refine wpAny_done (by kernel_rfl) ?_ _
          go_wp2
          go_ret
          exact ⟨rfl, HF.out.2.2.2.trans (bb18.mono HF.out.2.2.2.size)⟩
        · skip
          have o0_23 := (HF.out.2.1.below bb18).cell 0
          have o1_23 := (HF.out.2.1.below bb18).cell 1
          have o2_23 := (HF.out.2.1.below bb18).cell 2
          have o3_23 := (HF.out.2.1.below bb18).cell 3
          have o4_23 := (HF.out.2.1.below bb18).cell 4
          have o5_23 := (HF.out.2.1.below bb18).cell 5
          have o6_23 := (HF.out.2.1.below bb18).cell 6
          go_simp
          refine hK _ _ ?_
          clear hK K
          clear o0_23 o1_23 o2_23 o3_23 o4_23 o5_23 o6_23
          refine wpAny_ready (rs := [14]) (by kernel_rfl) (by simp) ?_
          refine AllReady.cons rfl (fun K hK => ?_) (AllReady.nil)
          have o0_24 := (HF.out.1.below bb18).cell 0
          have o1_24 := (HF.out.1.below bb18).cell 1
          have o2_24 := (HF.out.1.below bb18).cell 2
          have o3_24 := (HF.out.1.below bb18).cell 3
          have o4_24 := (HF.out.1.below bb18).cell 4
          have o5_24 := (HF.out.1.below bb18).cell 5
          have o6_24 := (HF.out.1.below bb18).cell 6
          go_simp
          refine hK _ _ ?_
          clear hK K
          clear o0_24 o1_24 o2_24 o3_24 o4_24 o5_24 o6_24
          refine take_put (i := 16) (d := 29) (v := ?_) rfl rfl (by kernel_rfl) (by kernel_rfl) (by kernel_rfl) (fun _ _ _ h => h) (Or.inl ⟨by rfl, ?_⟩) ?_
          rotate_left
          · intro w; go_simp; with_reducible rfl
          conv =>
            arg 7
            simp only [List.setIfInBounds_toArray, List.set_cons_succ, List.set_cons_zero]
          refine take_put (i := 17) (d := 30) (v := ?_) rfl rfl (by kernel_rfl) (by kernel_rfl) (by kernel_rfl) (fun _ _ _ h => h) (Or.inl ⟨by rfl, ?_⟩) ?_
          rotate_left
          · intro w; go_simp; with_reducible rfl
          conv =>
            arg 7
            simp only [List.setIfInBounds_toArray, List.set_cons_succ, List.set_cons_zero]
          refine take_put (i := 18) (d := 2) (v := ?_) rfl rfl (by kernel_rfl) (by kernel_rfl) (by kernel_rfl) (fun _ _ _ h => h) (Or.inl ⟨by rfl, ?_⟩) ?_
          rotate_left
          · intro w; go_simp; with_reducible rfl
          conv =>
            arg 7
            simp only [List.setIfInBounds_toArray, List.set_cons_succ, List.set_cons_zero]
          refine wpAny_done (by kernel_rfl) ?_ _
          go_wp2
          go_ret
          exact ⟨rfl, HF.out.2.2.2.trans (bb18.mono HF.out.2.2.2.size)⟩
      · skip
        have k25 := r18.conv (P := Try.prog) c18 25 5 9 Try.underlying25 Try.underlying5 Try.underlying9
        go_simp
        refine hK _ _ ?_
        clear hK K
        clear k25
        refine wpAny_ready (rs := [3]) (by kernel_rfl) (by simp) ?_
        refine AllReady.cons rfl (fun K hK => ?_) (AllReady.nil)
        have k26 := (HF.out.2.2.1.below bb18).conv (P := Try.prog) c 25 5 9 Try.underlying25 Try.underlying5 Try.underlying9
        go_simp
        refine hK _ _ ?_
        clear hK K
        clear k26
        refine take_put (i := 7) (d := 20) (v := ?_) rfl rfl (by kernel_rfl) (by kernel_rfl) (by kernel_rfl) (fun _ _ _ h => h) (Or.inl ⟨by rfl, ?_⟩) ?_
        rotate_left
        · intro w; go_simp; with_reducible rfl
        conv =>
          arg 7
          simp only [List.setIfInBounds_toArray, List.set_cons_succ, List.set_cons_zero]
        refine take_put (i := 8) (d := 21) (v := ?_) rfl rfl (by kernel_rfl) (by kernel_rfl) (by kernel_rfl) (fun _ _ _ h => h) (Or.inl ⟨by rfl, ?_⟩) ?_
        rotate_left
        · intro w; go_simp; with_reducible rfl
        conv =>
          arg 7
          simp only [List.setIfInBounds_toArray, List.set_cons_succ, List.set_cons_zero]
        refine take_put (i := 9) (d := 22) (v := ?_) rfl rfl (by kernel_rfl) (by kernel_rfl) (by kernel_rfl) (fun _ _ _ h => h) (Or.inl ⟨by rfl, ?_⟩) ?_
        rotate_left
        · intro w; go_simp; with_reducible rfl
        conv =>
          arg 7
          simp only [List.setIfInBounds_toArray, List.set_cons_succ, List.set_cons_zero]
        refine take_put (i := 10) (d := 23) (v := ?_) rfl rfl (by kernel_rfl) (by kernel_rfl) (by kernel_rfl) (fun _ _ _ h => h) (Or.inl ⟨by rfl, ?_⟩) ?_
        rotate_left
        · intro w; go_simp; with_reducible rfl
        conv =>
          arg 7
          simp only [List.setIfInBounds_toArray, List.set_cons_succ, List.set_cons_zero]
        refine take_put (i := 11) (d := 24) (v := ?_) rfl rfl (by kernel_rfl) (by kernel_rfl) (by kernel_rfl) (fun _ _ _ h => h) (Or.inl ⟨by rfl, ?_⟩) ?_
        rotate_left
        · intro w; go_simp; with_reducible rfl
        conv =>
          arg 7
          simp only [List.setIfInBounds_toArray, List.set_cons_succ, List.set_cons_zero]
        refine take_put (i := 12) (d := 25) (v := ?_) rfl rfl (by kernel_rfl) (by kernel_rfl) (by kernel_rfl) (fun _ _ _ h => h) (Or.inl ⟨by rfl, ?_⟩) ?_
        rotate_left
        · intro w; go_simp; with_reducible rfl
        conv =>
          arg 7
          simp only [List.setIfInBounds_toArray, List.set_cons_succ, List.set_cons_zero]
        refine take_put (i := 13) (d := 26) (v := ?_) rfl rfl (by kernel_rfl) (by kernel_rfl) (by kernel_rfl) (fun _ _ _ h => h) (Or.inl ⟨by rfl, ?_⟩) ?_
        rotate_left
        · intro w; go_simp; with_reducible rfl
        conv =>
          arg 7
          simp only [List.setIfInBounds_toArray, List.set_cons_succ, List.set_cons_zero]
        refine wpAny_ready (rs := [14, 15]) (by kernel_rfl) (by simp) ?_
        refine AllReady.cons rfl (fun K hK => ?_) (AllReady.cons rfl (fun K hK => ?_) (AllReady.nil))
        · skip
          have o0_27 := (HF.out.1.below bb18).cell 0
          have o1_27 := (HF.out.1.below bb18).cell 1
          have o2_27 := (HF.out.1.below bb18).cell 2
          have o3_27 := (HF.out.1.below bb18).cell 3
          have o4_27 := (HF.out.1.below bb18).cell 4
          have o5_27 := (HF.out.1.below bb18).cell 5
          have o6_27 := (HF.out.1.below bb18).cell 6
          go_simp
          refine hK _ _ ?_
          clear hK K
          clear o0_27 o1_27 o2_27 o3_27 o4_27 o5_27 o6_27
          refine wpAny_ready (rs := [15]) (by kernel_rfl) (by simp) ?_
          refine AllReady.cons rfl (fun K hK => ?_) (AllReady.nil)
          have o0_28 := (HF.out.2.1.below bb18).cell 0
          have o1_28 := (HF.out.2.1.below bb18).cell 1
          have o2_28 := (HF.out.2.1.below bb18).cell 2
          have o3_28 := (HF.out.2.1.below bb18).cell 3
          have o4_28 := (HF.out.2.1.below bb18).cell 4
          have o5_28 := (HF.out.2.1.below bb18).cell 5
          have o6_28 := (HF.out.2.1.below bb18).cell 6
          go_simp
          refine hK _ _ ?_
          clear hK K
          clear o0_28 o1_28 o2_28 o3_28 o4_28 o5_28 o6_28
          refine take_put (i := 16) (d := 29) (v := ?_) rfl rfl (by kernel_rfl) (by kernel_rfl) (by kernel_rfl) (fun _ _ _ h => h) (Or.inl ⟨by rfl, ?_⟩) ?_
          rotate_left
          · intro w; go_simp; with_reducible rfl
          conv =>
            arg 7
            simp only [List.setIfInBounds_toArray, List.set_cons_succ, List.set_cons_zero]
          refine take_put (i := 17) (d := 30) (v := ?_) rfl rfl (by kernel_rfl) (by kernel_rfl) (by kernel_rfl) (fun _ _ _ h => h) (Or.inl ⟨by rfl, ?_⟩) ?_
          rotate_left
          · intro w; go_simp; with_reducible rfl
          conv =>
            arg 7
            simp only [List.setIfInBounds_toArray, List.set_cons_succ, List.set_cons_zero]
          refine take_put (i := 18) (d := 2) (v := ?_) rfl rfl (by kernel_rfl) (by kernel_rfl) (by kernel_rfl) (fun _ _ _ h => h) (Or.inl ⟨by rfl, ?_⟩) ?_
          rotate_left
          · intro w; go_simp; with_reducible rfl
          conv =>
            arg 7
            simp only [List.setIfInBounds_toArray, List.set_cons_succ, List.set_cons_zero]
          refine wpAny_done (by kernel_rfl) ?_ _
          go_wp2
          go_ret
          exact ⟨rfl, HF.out.2.2.2.trans (bb18.mono HF.out.2.2.2.size)⟩
        · skip
          have o0_29 := (HF.out.2.1.below bb18).cell 0
          have o1_29 := (HF.out.2.1.below bb18).cell 1
          have o2_29 := (HF.out.2.1.below bb18).cell 2
          have o3_29 := (HF.out.2.1.below bb18).cell 3
          have o4_29 := (HF.out.2.1.below bb18).cell 4
          have o5_29 := (HF.out.2.1.below bb18).cell 5
          have o6_29 := (HF.out.2.1.below bb18).cell 6
          go_simp
          refine hK _ _ ?_
          clear hK K
          clear o0_29 o1_29 o2_29 o3_29 o4_29 o5_29 o6_29
          refine wpAny_ready (rs := [14]) (by kernel_rfl) (by simp) ?_
          refine AllReady.cons rfl (fun K hK => ?_) (AllReady.nil)
          have o0_30 := (HF.out.1.below bb18).cell 0
          have o1_30 := (HF.out.1.below bb18).cell 1
          have o2_30 := (HF.out.1.below bb18).cell 2
          have o3_30 := (HF.out.1.below bb18).cell 3
          have o4_30 := (HF.out.1.below bb18).cell 4
          have o5_30 := (HF.out.1.below bb18).cell 5
          have o6_30 := (HF.out.1.below bb18).cell 6
          go_simp
          refine hK _ _ ?_
          clear hK K
          clear o0_30 o1_30 o2_30 o3_30 o4_30 o5_30 o6_30
          refine take_put (i := 16) (d := 29) (v := ?_) rfl rfl (by kernel_rfl) (by kernel_rfl) (by kernel_rfl) (fun _ _ _ h => h) (Or.inl ⟨by rfl, ?_⟩) ?_
          rotate_left
          · intro w; go_simp; with_reducible rfl
          conv =>
            arg 7
            simp only [List.setIfInBounds_toArray, List.set_cons_succ, List.set_cons_zero]
          refine take_put (i := 17) (d := 30) (v := ?_) rfl rfl (by kernel_rfl) (by kernel_rfl) (by kernel_rfl) (fun _ _ _ h => h) (Or.inl ⟨by rfl, ?_⟩) ?_
          rotate_left
          · intro w; go_simp; with_reducible rfl
          conv =>
            arg 7
            simp only [List.setIfInBounds_toArray, List.set_cons_succ, List.set_cons_zero]
          refine take_put (i := 18) (d := 2) (v := ?_) rfl rfl (by kernel_rfl) (by kernel_rfl) (by kernel_rfl) (fun _ _ _ h => h) (Or.inl ⟨by rfl, ?_⟩) ?_
          rotate_left
          · intro w; go_simp; with_reducible rfl
          conv =>
            arg 7
            simp only [List.setIfInBounds_toArray, List.set_cons_succ, List.set_cons_zero]
          refine wpAny_done (by kernel_rfl) ?_ _
          go_wp2
          go_ret
          exact ⟨rfl, HF.out.2.2.2.trans (bb18.mono HF.out.2.2.2.size)⟩
end Go.Proofs.Ytlnmmklpccppmaa

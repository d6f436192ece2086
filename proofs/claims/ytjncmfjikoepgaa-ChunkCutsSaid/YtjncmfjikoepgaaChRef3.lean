/-
  Package tumulusref10: Fits, Join: contracts.
-/
import Derived.Test.YtjncmfjikoepgaaChRef2
import Derived.Test.YtjncmfjikoepgaaChJoin
import Derived.Test.YtjncmfjikoepgaaRegion
namespace Go.Proofs.Ytjncmfjikoepgaa
open Go.RowKit

theorem same_below {P : Program} {f : FuncId} {args : Array Value} {V : World} {v : Value} (h : Calls P f args V fun e w' => e = .returned v ∧ V = w') : Calls P f args V fun e w' => e = .returned v ∧ Below V.heap.size V w' :=
  h.mono fun _ _ ⟨h1, h2⟩ => ⟨h1, h2 ▸ Below.refl _ _⟩
set_option maxRecDepth 20000 in
set_option maxHeartbeats 2000000 in
theorem refFits_any (n : Int) (A : Option Addr) (k c : Nat) (z : List Int) (i : Int) (p : ByteArray) (w : World) (hr : RdV w A k (ivs z)) (hk : k ≤ 1000000000) :
    Calls Try.prog 18 #[.int .i64 n, .slice A k c, .int .i64 i, .string p] w (TellsB w (decide (RightM n z ∧ FitM n.toNat z i p))) := by
  obtain ⟨b, hb⟩ : ∃ b, b = decide (RightM n z ∧ FitM n.toNat z i p) := ⟨_, rfl⟩
  rw [← hb]
  have HD := Lib.hid hb
  clear hb
  have hl : z.length = k := by have := hr.len; rwa [ivs_length] at this
  have mixed := mixedP
  have hR := fun V (hV : Below w.heap.size w V) => refRight_any n A k c z V (hr.below hV) hk
  by_cases hq : RightM n z
  case neg =>
    rw [decide_eq_false hq] at hR
    obtain rfl : b = false := HD.out.trans (decide_eq_false (fun h => hq h.1))
    have cR := fun dd os => Calls.regrown_of (w := w) (d := dd) (os := os) (same_below (hR (Go.Sort.grow (redrawn w dd) os) (below_regrown w dd os)))
    clear hq hr hl hR
    go_enter Try.func18, Try.ntmps18
    go_wp2_with fail
    refine wp_region_quiet_below mixed (by kernel_rfl) ?_
    repeat (go_big_quiet_step (exact cR _ _))
    refine wpQuiet_nil ?_
    intro _ hw'
    obtain ⟨⟨dq, osq⟩, rfl⟩ := hw'
    have bq := Lib.hid (below_regrown w dq osq)
    clear cR
    go_wp2
    go_ret
    exact ⟨rfl, bq.out⟩
  rw [decide_eq_true hq] at hR
  obtain ⟨m, rfl⟩ : ∃ m : Nat, n = (m : Int) := ⟨n.toNat, by have := hq.1; omega⟩
  have hm : m ≤ 65536 := by have := hq.1; omega
  have hkm : k = cnt m := by have := hq.2.1; rw [hl, Int.toNat_natCast] at this; exact this
  have hL := fun V => refLen_any m i V (by omega)
  by_cases hs : lenI m i = (p.size : Int)
  case neg =>
    obtain rfl : b = false := HD.out.trans (decide_eq_false (fun h => hs (by
      have h1 := h.2
      unfold lenI
      rw [if_pos ⟨h1.1.1, by rw [← hkm, ← hl]; exact h1.1.2⟩, h1.2.1, Int.toNat_natCast])))
    obtain ⟨x, hx⟩ : ∃ x, x = lenI m i := ⟨_, rfl⟩
    rw [← hx] at hs hL
    have hne : (x == (p.size : Int)) = false := by rw [beq_eq_false_iff_ne]; exact hs
    have cR := fun dd os => Calls.regrown_of (w := w) (d := dd) (os := os) (same_below (hR (Go.Sort.grow (redrawn w dd) os) (below_regrown w dd os)))
    have cL := fun dd os => Calls.regrown_of (w := w) (d := dd) (os := os) (same_below (hL (Go.Sort.grow (redrawn w dd) os)))
    clear hq hr hl hR hL hkm hx hs
    go_enter Try.func18, Try.ntmps18
    go_wp2_with fail
    refine wp_region_quiet_below mixed (by kernel_rfl) ?_
    repeat (go_big_quiet_step (first | exact cR _ _ | exact cL _ _))
    refine wpQuiet_nil ?_
    intro _ hw'
    obtain ⟨⟨dq, osq⟩, rfl⟩ := hw'
    have bq := Lib.hid (below_regrown w dq osq)
    clear cR cL
    go_wp2
    go_ret
    exact ⟨rfl, bq.out⟩
  case pos =>
    have hi : 0 ≤ i ∧ i < cnt m := by
      unfold lenI at hs
      split at hs
      · assumption
      · omega
    obtain ⟨j, rfl⟩ : ∃ j : Nat, i = (j : Int) := ⟨i.toNat, by omega⟩
    have hj : j < k := by omega
    have hpz : p.size = pln m j := by
      unfold lenI at hs
      rw [if_pos hi, Int.toNat_natCast] at hs
      omega
    have hp80 : p.size ≤ 80 := by rw [hpz]; exact pln_le _ _
    rw [hs] at hL
    obtain ⟨M, hM⟩ : ∃ M, p.size = M := ⟨_, rfl⟩
    rw [hM] at hL
    obtain ⟨sm, hsm⟩ : ∃ sm, sm = smv p := ⟨_, rfl⟩
    obtain ⟨g, off, u, rfl, hgw, hu, hc⟩ := hr.cell hj
    obtain ⟨x, hx, rfl⟩ := ivs_get hu
    have hbx : (x == (sm : Int)) = b := by
      rw [HD.out, Bool.eq_iff_iff, beq_iff_eq, decide_eq_true_iff, Int.toNat_natCast]
      refine ⟨fun h => ⟨hq, ⟨by omega, by rw [hl]; omega⟩, by rw [Int.toNat_natCast, hpz], by rw [Int.toNat_natCast, hx, h, hsm]⟩, fun h => ?_⟩
      have h3 := h.2.2.2
      rw [Int.toNat_natCast, hx, ← hsm] at h3
      injection h3
    have HS : Hid (∀ (B : Option Addr) (c : Nat) (V : World), Rd V B M p.data.toList → Calls Try.prog 27 #[.slice B M c] V fun e w' => e = .returned (.int .i64 (sm : Int)) ∧ V = w') := Lib.hid fun B c V h => by
      rw [hsm]
      exact refSum_any B M c _ V h (by omega)
    have HC : Hid (∀ V, Below w.drew.heap.size w.drew V → V.cell? ⟨g, off + j, none⟩ = some (.int .i64 x)) := Lib.hid fun V h => (h.cell (p := ⟨g, off + j, none⟩) hgw).trans hc
    have HR : Hid (∀ V, Below w.drew.heap.size w.drew V → Calls Try.prog 16 #[.int .i64 (m : Int), .slice (some ⟨g, off, none⟩) k c] V fun e w' => e = .returned (.bool true) ∧ V = w') := Lib.hid fun V h => hR V ((Below.refl _ _).drew.trans h)
    have HL := Lib.hid hL
    have HM := Lib.hid hM
    have hM80 : M ≤ 80 := by omega
    have hjk : decide ((j : Int) < (k : Int)) = true := decide_eq_true (by omega)
    clear hq hr hl hR hL hkm hs hi hpz hsm hu hx hc
    go_enter Try.func18, Try.ntmps18
    go_wp2_with fail
    -- region
    refine wp_region_any (by kernel_rfl) ?_
    change wpAny _ _ _ _ _ _ _ (World.drew _)
    refine take_put (i := 0) (d := 9) (v := ?_) rfl rfl (by kernel_rfl) (by kernel_rfl) (by kernel_rfl) (fun _ _ _ h => h) (Or.inl ⟨by rfl, ?_⟩) ?_
    rotate_left
    · intro w; go_simp; with_reducible rfl
    conv =>
      arg 7
      simp only [List.setIfInBounds_toArray, List.set_cons_succ, List.set_cons_zero]
    refine take_put (i := 1) (d := 10) (v := ?_) rfl rfl (by kernel_rfl) (by kernel_rfl) (by kernel_rfl) (fun _ _ _ h => h) (Or.inl ⟨by rfl, ?_⟩) ?_
    rotate_left
    · intro w; go_simp; with_reducible rfl
    conv =>
      arg 7
      simp only [List.setIfInBounds_toArray, List.set_cons_succ, List.set_cons_zero]
    refine wpAny_ready (rs := [2]) (by kernel_rfl) (by simp) ?_
    refine AllReady.cons rfl (fun K hK => ?_) (AllReady.nil)
    go_simp
    go_wp2_with (go_at_call 16; refine (HR.out _ (Below.refl _ _)).mono ?_; rintro e wq1 ⟨rfl, rfl⟩)
    refine take_put (i := 3) (d := 12) (v := ?_) rfl rfl (by kernel_rfl) (by kernel_rfl) (by kernel_rfl) (fun _ _ _ h => h) (Or.inl ⟨by rfl, ?_⟩) ?_
    rotate_left
    · intro w; go_simp; with_reducible rfl
    conv =>
      arg 7
      simp only [List.setIfInBounds_toArray, List.set_cons_succ, List.set_cons_zero]
    refine take_put (i := 4) (d := 13) (v := ?_) rfl rfl (by kernel_rfl) (by kernel_rfl) (by kernel_rfl) (fun _ _ _ h => h) (Or.inl ⟨by rfl, ?_⟩) ?_
    rotate_left
    · intro w; go_simp; with_reducible rfl
    conv =>
      arg 7
      simp only [List.setIfInBounds_toArray, List.set_cons_succ, List.set_cons_zero]
    refine take_put (i := 5) (d := 14) (v := ?_) rfl rfl (by kernel_rfl) (by kernel_rfl) (by kernel_rfl) (fun _ _ _ h => h) (Or.inl ⟨by rfl, ?_⟩) ?_
    rotate_left
    · intro w; go_simp; with_reducible rfl
    conv =>
      arg 7
      simp only [List.setIfInBounds_toArray, List.set_cons_succ, List.set_cons_zero]
    refine take_put (i := 7) (d := 16) (v := ?_) rfl rfl (by kernel_rfl) (by kernel_rfl) (by kernel_rfl) (fun _ _ _ h => h) (Or.inl ⟨by rfl, ?_⟩) ?_
    rotate_left
    · intro w; go_simp; with_reducible rfl
    conv =>
      arg 7
      simp only [List.setIfInBounds_toArray, List.set_cons_succ, List.set_cons_zero]
    refine wpAny_ready (rs := [6, 8]) (by kernel_rfl) (by simp) ?_
    refine AllReady.cons rfl (fun K hK => ?_) (AllReady.cons rfl (fun K hK => ?_) (AllReady.nil))
    · skip
      go_simp
      go_wp2_with (go_at_call 29; refine (HL.out _).mono ?_; rintro e wq2 ⟨rfl, rfl⟩)
      refine wpAny_ready (rs := [8]) (by kernel_rfl) (by simp) ?_
      refine AllReady.cons rfl (fun K hK => ?_) (AllReady.nil)
      go_simp
      refine hK _ _ ?_
      clear hK K
      refine take_put (i := 9) (d := 18) (v := ?_) rfl rfl (by kernel_rfl) (by kernel_rfl) (by kernel_rfl) (fun _ _ _ h => h) (Or.inl ⟨by rfl, ?_⟩) ?_
      rotate_left
      · intro w; go_simp; with_reducible rfl
      conv =>
        arg 7
        simp only [List.setIfInBounds_toArray, List.set_cons_succ, List.set_cons_zero]
      refine take_put (i := 10) (d := 19) (v := ?_) rfl rfl (by kernel_rfl) (by kernel_rfl) (by kernel_rfl) (fun _ _ _ h => h) (Or.inl ⟨by rfl, ?_⟩) ?_
      rotate_left
      · intro w; go_simp; with_reducible rfl
      conv =>
        arg 7
        simp only [List.setIfInBounds_toArray, List.set_cons_succ, List.set_cons_zero]
      refine take_put (i := 11) (d := 20) (v := ?_) rfl rfl (by kernel_rfl) (by kernel_rfl) (by kernel_rfl) (fun _ _ _ h => h) (Or.inl ⟨by rfl, ?_⟩) ?_
      rotate_left
      · intro w; go_simp; with_reducible rfl
      conv =>
        arg 7
        simp only [List.setIfInBounds_toArray, List.set_cons_succ, List.set_cons_zero]
      refine take_put (i := 12) (d := 21) (v := ?_) rfl rfl (by kernel_rfl) (by kernel_rfl) (by kernel_rfl) (fun _ _ _ h => h) (Or.inl ⟨by rfl, ?_⟩) ?_
      rotate_left
      · intro w; go_simp; with_reducible rfl
      conv =>
        arg 7
        simp only [List.setIfInBounds_toArray, List.set_cons_succ, List.set_cons_zero]
      refine take_put (i := 13) (d := 22) (v := ?_) rfl rfl (by kernel_rfl) (by kernel_rfl) (by kernel_rfl) (fun _ _ _ h => h) (Or.inl ⟨by rfl, ?_⟩) ?_
      rotate_left
      · intro w; go_simp; with_reducible rfl
      conv =>
        arg 7
        simp only [List.setIfInBounds_toArray, List.set_cons_succ, List.set_cons_zero]
      refine take_put (i := 14) (d := 23) (v := ?_) rfl rfl (by kernel_rfl) (by kernel_rfl) (by kernel_rfl) (fun _ _ _ h => h) (Or.inl ⟨by rfl, ?_⟩) ?_
      rotate_left
      · intro w; go_simp; with_reducible rfl
      conv =>
        arg 7
        simp only [List.setIfInBounds_toArray, List.set_cons_succ, List.set_cons_zero]
      refine take_put (i := 16) (d := 25) (v := ?_) rfl rfl (by kernel_rfl) (by kernel_rfl) (by kernel_rfl) (fun _ _ _ h => h) (Or.inl ⟨by rfl, ?_⟩) ?_
      rotate_left
      · intro w; go_simp; with_reducible rfl
      conv =>
        arg 7
        simp only [List.setIfInBounds_toArray, List.set_cons_succ, List.set_cons_zero]
      refine wpAny_ready (rs := [15, 17]) (by kernel_rfl) (by simp) ?_
      refine AllReady.cons rfl (fun K hK => ?_) (AllReady.cons rfl (fun K hK => ?_) (AllReady.nil))
      · skip
        have cl4 := HC.out _ (Below.refl _ _)
        go_simp
        refine hK _ _ ?_
        clear hK K
        clear cl4
        refine wpAny_ready (rs := [17]) (by kernel_rfl) (by simp) ?_
        refine AllReady.cons rfl (fun K hK => ?_) (AllReady.nil)
        obtain ⟨c5, wq5, kc5, rd5, bq5, _, _⟩ := str_bytes w.drew p (by unfold maxLen; omega)
        rw [HM.out] at kc5 rd5
        go_simp
        refine hK _ _ ?_
        clear hK K
        clear kc5
        refine wpAny_ready (rs := [18]) (by kernel_rfl) (by simp) ?_
        refine AllReady.cons rfl (fun K hK => ?_) (AllReady.nil)
        go_simp
        go_wp2_with (go_at_call 27; refine (HS.out _ c5 _ rd5).mono ?_; rintro e wq6 ⟨rfl, rfl⟩)
        refine take_put (i := 19) (d := 28) (v := ?_) rfl rfl (by kernel_rfl) (by kernel_rfl) (by kernel_rfl) (fun _ _ _ h => h) (Or.inl ⟨by rfl, ?_⟩) ?_
        rotate_left
        · intro w; go_simp; with_reducible rfl
        conv =>
          arg 7
          simp only [List.setIfInBounds_toArray, List.set_cons_succ, List.set_cons_zero]
        refine take_put (i := 20) (d := 29) (v := ?_) rfl rfl (by kernel_rfl) (by kernel_rfl) (by kernel_rfl) (fun _ _ _ h => h) (Or.inl ⟨by rfl, ?_⟩) ?_
        rotate_left
        · intro w; go_simp; with_reducible rfl
        conv =>
          arg 7
          simp only [List.setIfInBounds_toArray, List.set_cons_succ, List.set_cons_zero]
        refine take_put (i := 21) (d := 8) (v := ?_) rfl rfl (by kernel_rfl) (by kernel_rfl) (by kernel_rfl) (fun _ _ _ h => h) (Or.inl ⟨by rfl, ?_⟩) ?_
        rotate_left
        · intro w; go_simp; with_reducible rfl
        conv =>
          arg 7
          simp only [List.setIfInBounds_toArray, List.set_cons_succ, List.set_cons_zero]
        refine wpAny_done (by kernel_rfl) ?_ _
        go_wp2
        go_ret
        exact ⟨rfl, (Below.refl w.heap.size w).drew.trans bq5⟩
      · skip
        obtain ⟨c7, wq7, kc7, rd7, bq7, _, _⟩ := str_bytes w.drew p (by unfold maxLen; omega)
        rw [HM.out] at kc7 rd7
        go_simp
        refine hK _ _ ?_
        clear hK K
        clear kc7
        refine wpAny_ready (rs := [15, 18]) (by kernel_rfl) (by simp) ?_
        refine AllReady.cons rfl (fun K hK => ?_) (AllReady.cons rfl (fun K hK => ?_) (AllReady.nil))
        · skip
          have cl8 := HC.out _ bq7
          go_simp
          refine hK _ _ ?_
          clear hK K
          clear cl8
          refine wpAny_ready (rs := [18]) (by kernel_rfl) (by simp) ?_
          refine AllReady.cons rfl (fun K hK => ?_) (AllReady.nil)
          go_simp
          go_wp2_with (go_at_call 27; refine (HS.out _ c7 _ rd7).mono ?_; rintro e wq9 ⟨rfl, rfl⟩)
          refine take_put (i := 19) (d := 28) (v := ?_) rfl rfl (by kernel_rfl) (by kernel_rfl) (by kernel_rfl) (fun _ _ _ h => h) (Or.inl ⟨by rfl, ?_⟩) ?_
          rotate_left
          · intro w; go_simp; with_reducible rfl
          conv =>
            arg 7
            simp only [List.setIfInBounds_toArray, List.set_cons_succ, List.set_cons_zero]
          refine take_put (i := 20) (d := 29) (v := ?_) rfl rfl (by kernel_rfl) (by kernel_rfl) (by kernel_rfl) (fun _ _ _ h => h) (Or.inl ⟨by rfl, ?_⟩) ?_
          rotate_left
          · intro w; go_simp; with_reducible rfl
          conv =>
            arg 7
            simp only [List.setIfInBounds_toArray, List.set_cons_succ, List.set_cons_zero]
          refine take_put (i := 21) (d := 8) (v := ?_) rfl rfl (by kernel_rfl) (by kernel_rfl) (by kernel_rfl) (fun _ _ _ h => h) (Or.inl ⟨by rfl, ?_⟩) ?_
          rotate_left
          · intro w; go_simp; with_reducible rfl
          conv =>
            arg 7
            simp only [List.setIfInBounds_toArray, List.set_cons_succ, List.set_cons_zero]
          refine wpAny_done (by kernel_rfl) ?_ _
          go_wp2
          go_ret
          exact ⟨rfl, (Below.refl w.heap.size w).drew.trans bq7⟩
        · skip
          go_simp
          go_wp2_with (go_at_call 27; refine (HS.out _ c7 _ rd7).mono ?_; rintro e wq10 ⟨rfl, rfl⟩)
          refine wpAny_ready (rs := [15]) (by kernel_rfl) (by simp) ?_
          refine AllReady.cons rfl (fun K hK => ?_) (AllReady.nil)
          have cl11 := HC.out _ bq7
          go_simp
          refine hK _ _ ?_
          clear hK K
          clear cl11
          refine take_put (i := 19) (d := 28) (v := ?_) rfl rfl (by kernel_rfl) (by kernel_rfl) (by kernel_rfl) (fun _ _ _ h => h) (Or.inl ⟨by rfl, ?_⟩) ?_
          rotate_left
          · intro w; go_simp; with_reducible rfl
          conv =>
            arg 7
            simp only [List.setIfInBounds_toArray, List.set_cons_succ, List.set_cons_zero]
          refine take_put (i := 20) (d := 29) (v := ?_) rfl rfl (by kernel_rfl) (by kernel_rfl) (by kernel_rfl) (fun _ _ _ h => h) (Or.inl ⟨by rfl, ?_⟩) ?_
          rotate_left
          · intro w; go_simp; with_reducible rfl
          conv =>
            arg 7
            simp only [List.setIfInBounds_toArray, List.set_cons_succ, List.set_cons_zero]
          refine take_put (i := 21) (d := 8) (v := ?_) rfl rfl (by kernel_rfl) (by kernel_rfl) (by kernel_rfl) (fun _ _ _ h => h) (Or.inl ⟨by rfl, ?_⟩) ?_
          rotate_left
          · intro w; go_simp; with_reducible rfl
          conv =>
            arg 7
            simp only [List.setIfInBounds_toArray, List.set_cons_succ, List.set_cons_zero]
          refine wpAny_done (by kernel_rfl) ?_ _
          go_wp2
          go_ret
          exact ⟨rfl, (Below.refl w.heap.size w).drew.trans bq7⟩
    · skip
      go_simp
      refine hK _ _ ?_
      clear hK K
      refine wpAny_ready (rs := [6]) (by kernel_rfl) (by simp) ?_
      refine AllReady.cons rfl (fun K hK => ?_) (AllReady.nil)
      go_simp
      go_wp2_with (go_at_call 29; refine (HL.out _).mono ?_; rintro e wq13 ⟨rfl, rfl⟩)
      refine take_put (i := 9) (d := 18) (v := ?_) rfl rfl (by kernel_rfl) (by kernel_rfl) (by kernel_rfl) (fun _ _ _ h => h) (Or.inl ⟨by rfl, ?_⟩) ?_
      rotate_left
      · intro w; go_simp; with_reducible rfl
      conv =>
        arg 7
        simp only [List.setIfInBounds_toArray, List.set_cons_succ, List.set_cons_zero]
      refine take_put (i := 10) (d := 19) (v := ?_) rfl rfl (by kernel_rfl) (by kernel_rfl) (by kernel_rfl) (fun _ _ _ h => h) (Or.inl ⟨by rfl, ?_⟩) ?_
      rotate_left
      · intro w; go_simp; with_reducible rfl
      conv =>
        arg 7
        simp only [List.setIfInBounds_toArray, List.set_cons_succ, List.set_cons_zero]
      refine take_put (i := 11) (d := 20) (v := ?_) rfl rfl (by kernel_rfl) (by kernel_rfl) (by kernel_rfl) (fun _ _ _ h => h) (Or.inl ⟨by rfl, ?_⟩) ?_
      rotate_left
      · intro w; go_simp; with_reducible rfl
      conv =>
        arg 7
        simp only [List.setIfInBounds_toArray, List.set_cons_succ, List.set_cons_zero]
      refine take_put (i := 12) (d := 21) (v := ?_) rfl rfl (by kernel_rfl) (by kernel_rfl) (by kernel_rfl) (fun _ _ _ h => h) (Or.inl ⟨by rfl, ?_⟩) ?_
      rotate_left
      · intro w; go_simp; with_reducible rfl
      conv =>
        arg 7
        simp only [List.setIfInBounds_toArray, List.set_cons_succ, List.set_cons_zero]
      refine take_put (i := 13) (d := 22) (v := ?_) rfl rfl (by kernel_rfl) (by kernel_rfl) (by kernel_rfl) (fun _ _ _ h => h) (Or.inl ⟨by rfl, ?_⟩) ?_
      rotate_left
      · intro w; go_simp; with_reducible rfl
      conv =>
        arg 7
        simp only [List.setIfInBounds_toArray, List.set_cons_succ, List.set_cons_zero]
      refine take_put (i := 14) (d := 23) (v := ?_) rfl rfl (by kernel_rfl) (by kernel_rfl) (by kernel_rfl) (fun _ _ _ h => h) (Or.inl ⟨by rfl, ?_⟩) ?_
      rotate_left
      · intro w; go_simp; with_reducible rfl
      conv =>
        arg 7
        simp only [List.setIfInBounds_toArray, List.set_cons_succ, List.set_cons_zero]
      refine take_put (i := 16) (d := 25) (v := ?_) rfl rfl (by kernel_rfl) (by kernel_rfl) (by kernel_rfl) (fun _ _ _ h => h) (Or.inl ⟨by rfl, ?_⟩) ?_
      rotate_left
      · intro w; go_simp; with_reducible rfl
      conv =>
        arg 7
        simp only [List.setIfInBounds_toArray, List.set_cons_succ, List.set_cons_zero]
      refine wpAny_ready (rs := [15, 17]) (by kernel_rfl) (by simp) ?_
      refine AllReady.cons rfl (fun K hK => ?_) (AllReady.cons rfl (fun K hK => ?_) (AllReady.nil))
      · skip
        have cl14 := HC.out _ (Below.refl _ _)
        go_simp
        refine hK _ _ ?_
        clear hK K
        clear cl14
        refine wpAny_ready (rs := [17]) (by kernel_rfl) (by simp) ?_
        refine AllReady.cons rfl (fun K hK => ?_) (AllReady.nil)
        obtain ⟨c15, wq15, kc15, rd15, bq15, _, _⟩ := str_bytes w.drew p (by unfold maxLen; omega)
        rw [HM.out] at kc15 rd15
        go_simp
        refine hK _ _ ?_
        clear hK K
        clear kc15
        refine wpAny_ready (rs := [18]) (by kernel_rfl) (by simp) ?_
        refine AllReady.cons rfl (fun K hK => ?_) (AllReady.nil)
        go_simp
        go_wp2_with (go_at_call 27; refine (HS.out _ c15 _ rd15).mono ?_; rintro e wq16 ⟨rfl, rfl⟩)
        refine take_put (i := 19) (d := 28) (v := ?_) rfl rfl (by kernel_rfl) (by kernel_rfl) (by kernel_rfl) (fun _ _ _ h => h) (Or.inl ⟨by rfl, ?_⟩) ?_
        rotate_left
        · intro w; go_simp; with_reducible rfl
        conv =>
          arg 7
          simp only [List.setIfInBounds_toArray, List.set_cons_succ, List.set_cons_zero]
        refine take_put (i := 20) (d := 29) (v := ?_) rfl rfl (by kernel_rfl) (by kernel_rfl) (by kernel_rfl) (fun _ _ _ h => h) (Or.inl ⟨by rfl, ?_⟩) ?_
        rotate_left
        · intro w; go_simp; with_reducible rfl
        conv =>
          arg 7
          simp only [List.setIfInBounds_toArray, List.set_cons_succ, List.set_cons_zero]
        refine take_put (i := 21) (d := 8) (v := ?_) rfl rfl (by kernel_rfl) (by kernel_rfl) (by kernel_rfl) (fun _ _ _ h => h) (Or.inl ⟨by rfl, ?_⟩) ?_
        rotate_left
        · intro w; go_simp; with_reducible rfl
        conv =>
          arg 7
          simp only [List.setIfInBounds_toArray, List.set_cons_succ, List.set_cons_zero]
        refine wpAny_done (by kernel_rfl) ?_ _
        go_wp2
        go_ret
        exact ⟨rfl, (Below.refl w.heap.size w).drew.trans bq15⟩
      · skip
        obtain ⟨c17, wq17, kc17, rd17, bq17, _, _⟩ := str_bytes w.drew p (by unfold maxLen; omega)
        rw [HM.out] at kc17 rd17
        go_simp
        refine hK _ _ ?_
        clear hK K
        clear kc17
        refine wpAny_ready (rs := [15, 18]) (by kernel_rfl) (by simp) ?_
        refine AllReady.cons rfl (fun K hK => ?_) (AllReady.cons rfl (fun K hK => ?_) (AllReady.nil))
        · skip
          have cl18 := HC.out _ bq17
          go_simp
          refine hK _ _ ?_
          clear hK K
          clear cl18
          refine wpAny_ready (rs := [18]) (by kernel_rfl) (by simp) ?_
          refine AllReady.cons rfl (fun K hK => ?_) (AllReady.nil)
          go_simp
          go_wp2_with (go_at_call 27; refine (HS.out _ c17 _ rd17).mono ?_; rintro e wq19 ⟨rfl, rfl⟩)
          refine take_put (i := 19) (d := 28) (v := ?_) rfl rfl (by kernel_rfl) (by kernel_rfl) (by kernel_rfl) (fun _ _ _ h => h) (Or.inl ⟨by rfl, ?_⟩) ?_
          rotate_left
          · intro w; go_simp; with_reducible rfl
          conv =>
            arg 7
            simp only [List.setIfInBounds_toArray, List.set_cons_succ, List.set_cons_zero]
          refine take_put (i := 20) (d := 29) (v := ?_) rfl rfl (by kernel_rfl) (by kernel_rfl) (by kernel_rfl) (fun _ _ _ h => h) (Or.inl ⟨by rfl, ?_⟩) ?_
          rotate_left
          · intro w; go_simp; with_reducible rfl
          conv =>
            arg 7
            simp only [List.setIfInBounds_toArray, List.set_cons_succ, List.set_cons_zero]
          refine take_put (i := 21) (d := 8) (v := ?_) rfl rfl (by kernel_rfl) (by kernel_rfl) (by kernel_rfl) (fun _ _ _ h => h) (Or.inl ⟨by rfl, ?_⟩) ?_
          rotate_left
          · intro w; go_simp; with_reducible rfl
          conv =>
            arg 7
            simp only [List.setIfInBounds_toArray, List.set_cons_succ, List.set_cons_zero]
          refine wpAny_done (by kernel_rfl) ?_ _
          go_wp2
          go_ret
          exact ⟨rfl, (Below.refl w.heap.size w).drew.trans bq17⟩
        · skip
          go_simp
          go_wp2_with (go_at_call 27; refine (HS.out _ c17 _ rd17).mono ?_; rintro e wq20 ⟨rfl, rfl⟩)
          refine wpAny_ready (rs := [15]) (by kernel_rfl) (by simp) ?_
          refine AllReady.cons rfl (fun K hK => ?_) (AllReady.nil)
          have cl21 := HC.out _ bq17
          go_simp
          refine hK _ _ ?_
          clear hK K
          clear cl21
          refine take_put (i := 19) (d := 28) (v := ?_) rfl rfl (by kernel_rfl) (by kernel_rfl) (by kernel_rfl) (fun _ _ _ h => h) (Or.inl ⟨by rfl, ?_⟩) ?_
          rotate_left
          · intro w; go_simp; with_reducible rfl
          conv =>
            arg 7
            simp only [List.setIfInBounds_toArray, List.set_cons_succ, List.set_cons_zero]
          refine take_put (i := 20) (d := 29) (v := ?_) rfl rfl (by kernel_rfl) (by kernel_rfl) (by kernel_rfl) (fun _ _ _ h => h) (Or.inl ⟨by rfl, ?_⟩) ?_
          rotate_left
          · intro w; go_simp; with_reducible rfl
          conv =>
            arg 7
            simp only [List.setIfInBounds_toArray, List.set_cons_succ, List.set_cons_zero]
          refine take_put (i := 21) (d := 8) (v := ?_) rfl rfl (by kernel_rfl) (by kernel_rfl) (by kernel_rfl) (fun _ _ _ h => h) (Or.inl ⟨by rfl, ?_⟩) ?_
          rotate_left
          · intro w; go_simp; with_reducible rfl
          conv =>
            arg 7
            simp only [List.setIfInBounds_toArray, List.set_cons_succ, List.set_cons_zero]
          refine wpAny_done (by kernel_rfl) ?_ _
          go_wp2
          go_ret
          exact ⟨rfl, (Below.refl w.heap.size w).drew.trans bq17⟩
    -- end region
end Go.Proofs.Ytjncmfjikoepgaa

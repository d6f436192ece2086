/-
  The walks of the laws SumSums, SumSeals, SumOpens, SumTwice: each says true, whatever came in, and nothing that was there is written over.
-/
import Derived.Test.YtpainpekapnbhaaSumS
import Derived.Test.YtpainpekapnbhaaSumT
import Derived.Test.YtpainpekapnbhaaKeep
import Derived.Deep.DeepCutAuto
namespace Go.Proofs.Ytpainpekapnbhaa
open Go.RowKit

/-- The lent bytes without the room behind them. -/
theorem lent_take {w : World} {A : Option Addr} {n : Nat} {b : List UInt8} (hl : b.length = n) (r : Rd w A (n + 6) (b ++ pad 6)) : Rd w A n b := by
  have h := r.take (k := n) (by omega)
  rw [List.take_append_of_le_length (by omega), List.take_of_length_le (by omega)] at h
  exact h

set_option maxHeartbeats 1000000 in
theorem sumSums_walk (A : Option Addr) (n c : Nat) (b : List UInt8) (m : Int) (w : World) (hb : Rd w A n b) :
    Calls Try.prog 3 #[.slice A n c, .int .i64 m] w (Holds w) := by
  by_cases hn : 65536 < n
  · go_enter Try.func3, Try.ntmps3
    go_wp2
    go_ret
    exact ⟨rfl, Below.refl _ _⟩
  · have Hl := Lib.hid hb.len
    go_enter Try.func3, Try.ntmps3
    go_wp2_with fail
    refine (lent_any A n c b w hb (by omega)).mono ?_
    rintro e w1 ⟨A1, c1, rfl, hc1, hm1, r1, b1⟩
    rw [Hl.out] at hc1 r1 ⊢
    have r1' := lent_take Hl.out r1
    go_wp2_with fail
    by_cases hy : m < 0 ∨ 4294967295 < m
    · refine (more_no m _ w1 hy).mono ?_
      rintro e w2 ⟨rfl, rfl⟩
      go_wp2_with fail
      refine (refMore_no m _ w1 hy).mono ?_
      rintro e w2 ⟨rfl, rfl⟩
      go_wp2_with fail
      refine (sums_any w1).mono ?_
      rintro e w2 ⟨rfl, b2⟩
      go_wp2_with fail
      refine (sum_any A1 n c1 b w2 (r1'.below b2) (by simp only [maxLen]; omega)).mono ?_
      rintro e w3 ⟨rfl, b3⟩
      have b13 := b2.trans (b3.mono b2.size)
      go_wp2_with fail
      refine (refSum_any A n c b w3 ((hb.below b1).below b13) (by omega)).mono ?_
      rintro e w4 ⟨rfl, rfl⟩
      go_wp2_with fail
      refine (kept_yes A1 A n c1 c b w3 (r1.below b13) hc1 hm1 ((hb.below b1).below b13)).mono ?_
      rintro e w4 ⟨rfl, rfl⟩
      clear hy
      go_wp2
      go_ret
      exact ⟨rfl, b1.trans (b13.mono b1.size)⟩
    · obtain ⟨s, rfl⟩ : ∃ s : BitVec 32, m = (s.toNat : Int) := ⟨BitVec.ofNat 32 m.toNat, by rw [BitVec.toNat_ofNat]; omega⟩
      clear hy
      refine (more_yes s A1 n c1 b w1 r1' (by simp only [maxLen]; omega)).mono ?_
      rintro e w2 ⟨rfl, b2⟩
      go_wp2_with fail
      refine (refMore_yes s A n c b w2 ((hb.below b1).below b2) (by omega)).mono ?_
      rintro e w3 ⟨rfl, rfl⟩
      go_wp2_with fail
      refine (sums_any w2).mono ?_
      rintro e w3 ⟨rfl, b3⟩
      have b13 := b2.trans (b3.mono b2.size)
      go_wp2_with fail
      refine (sum_any A1 n c1 b w3 (r1'.below b13) (by simp only [maxLen]; omega)).mono ?_
      rintro e w4 ⟨rfl, b4⟩
      have b14 := b13.trans (b4.mono b13.size)
      go_wp2_with fail
      refine (refSum_any A n c b w4 ((hb.below b1).below b14) (by omega)).mono ?_
      rintro e w5 ⟨rfl, rfl⟩
      go_wp2_with fail
      refine (kept_yes A1 A n c1 c b w4 (r1.below b14) hc1 hm1 ((hb.below b1).below b14)).mono ?_
      rintro e w5 ⟨rfl, rfl⟩
      go_wp2
      go_ret
      exact ⟨rfl, b1.trans (b14.mono b1.size)⟩

set_option maxHeartbeats 2000000 in
theorem sumSeals_walk (A : Option Addr) (n c : Nat) (b : List UInt8) (w : World) (hb : Rd w A n b) :
    Calls Try.prog 5 #[.slice A n c] w (Holds w) := by
  by_cases hn : 65536 < n
  · go_enter Try.func5, Try.ntmps5
    go_wp2
    go_ret
    exact ⟨rfl, Below.refl _ _⟩
  · have Hl := Lib.hid hb.len
    go_enter Try.func5, Try.ntmps5
    go_wp2_with fail
    refine (lent_any A n c b w hb (by omega)).mono ?_
    rintro e w1 ⟨A1, c1, rfl, hc1, hm1, r1, b1⟩
    rw [Hl.out] at hc1 r1 ⊢
    have r1' := lent_take Hl.out r1
    go_wp2_with fail
    refine (seal_any A1 n c1 b w1 r1' (by omega)).mono ?_
    rintro e w2 ⟨v2, rfl, o2, b2⟩
    have Hs : Hid ((sealOf b).length = n + 4) := Lib.hid (by unfold sealOf; rw [List.length_append, be_length, Hl.out])
    obtain ⟨A2, c2, rfl, hc2, hm2, r2⟩ := o2.shapeN (n := n + 4) Hs.out
    change Rd w2 A2 (n + 4) (sealOf b) at r2
    clear o2
    have hb2 := (hb.below b1).below b2
    have HC : Hid (∀ W : World, Below w2.heap.size w2 W → Calls Try.prog 18 #[.slice A n c] W (SealPost (n + 4) (sealOf b) W)) := Lib.hid fun W hW => by
      refine (refSeal_any A n c b W (hb2.below hW) (by omega)).mono ?_
      rintro e w3 ⟨v3, rfl, o3, b3⟩
      obtain ⟨A3, c3, rfl, _, _, r3⟩ := o3.shapeN (n := n + 4) Hs.out
      exact ⟨A3, c3, rfl, r3, b3⟩
    have HK : Hid (∀ W : World, Below w2.heap.size w2 W → Calls Try.prog 16 #[.slice A1 n c1, .slice A n c] W fun e w' => e = .returned (.bool true) ∧ W = w') := Lib.hid fun W hW =>
      kept_yes A1 A n c1 c b W ((r1.below b2).below hW) hc1 hm1 (hb2.below hW)
    have k2 := r2.drew.conv (P := Try.prog) c2 22 5 9 Try.underlying22 Try.underlying5 Try.underlying9
    have r2d := r2.drew
    have b2d : Below w2.heap.size w2 w2.drew := (Below.refl _ _).drew
    go_upto_if 25 with (fail)
    go_cut [25] (fun v wc => v = .bool false ∧ Below w2.heap.size w2 wc)
    case first =>
      go_region_with (first
        | (go_at_call 18; refine Calls.mono (HC.out _ b2d) ?_; rintro e w3 ⟨A3, c3, rfl, r3, b3⟩; have b23 : Below w2.heap.size w2 w3 := b2d.trans (b3.mono b2d.size); have k3 := r3.conv (P := Try.prog) c3 22 5 9 Try.underlying22 Try.underlying5 Try.underlying9; have k4 := (r2d.below b3).conv (P := Try.prog) c2 22 5 9 Try.underlying22 Try.underlying5 Try.underlying9)
        | (go_at_call 16; refine Calls.mono (HK.out _ (by assumption)) ?_; rintro e w4 ⟨rfl, rfl⟩))
      all_goals
        clear HC HK k2 k3 k4 r2d
        go_wp2_with fail
        go_meet
        case rel => exact ⟨rfl, b23⟩
    case rest =>
      obtain ⟨rfl, b23⟩ := hcut
      clear HC HK k2 r2d b2d
      have Ht : Hid ((sealOf b).take (n + 4 - 4) = b) := Lib.hid (by unfold sealOf; rw [show n + 4 - 4 = b.length from by rw [Hl.out]; omega]; simp)
      go_wp2_with fail
      refine (open_yes A2 (n + 4) c2 (sealOf b) wc (r2.below b23) (by omega) hc2 hm2 (by omega) (by rw [Ht.out])).mono ?_
      rintro e w4 ⟨v4, rfl, o4, b4⟩
      rw [Ht.out] at o4
      have b24 := b23.trans (b4.mono b23.size)
      go_wp2_with fail
      refine (seals_any w4).mono ?_
      rintro e w5 ⟨rfl, b5⟩
      have b25 := b24.trans (b5.mono b24.size)
      obtain ⟨A5, c5, rfl, _, _, r5⟩ := (o4.below b5).shapeN (n := n) Hl.out
      have k5 := r5.conv (P := Try.prog) c5 22 5 9 Try.underlying22 Try.underlying5 Try.underlying9
      have k6 := (hb2.below b25).conv (P := Try.prog) c 22 5 9 Try.underlying22 Try.underlying5 Try.underlying9
      clear o4 r5 r2
      go_wp2
      go_ret
      exact ⟨rfl, b1.trans ((b2.trans (b25.mono b2.size)).mono b1.size)⟩

/-- The relation of the loop that writes over what Open handed back. -/
def FillRel (base : Nat) (w0 : World) (n : Nat) (v i : Value) (wr : World) : Prop := ∃ k : Nat, k ≤ n ∧ i = .int .i64 k ∧ (∃ l, l.length = n ∧ Own 5 wr base v l) ∧ Below base w0 wr

set_option maxHeartbeats 2000000 in
theorem sumOpens_walk (A : Option Addr) (n c : Nat) (b : List UInt8) (w : World) (hb : Rd w A n b) (hnc : n ≤ c) (hcm : c ≤ maxLen) :
    Calls Try.prog 6 #[.slice A n c] w (Holds w) := by
  by_cases hn : 65536 < n
  · go_enter Try.func6, Try.ntmps6
    go_wp2
    go_ret
    exact ⟨rfl, Below.refl _ _⟩
  · have Hl := Lib.hid hb.len
    have Hcm := Lib.hid hcm
    go_enter Try.func6, Try.ntmps6
    go_wp2_with fail
    refine (lent_any A n c b w hb (by omega)).mono ?_
    rintro e w1 ⟨A1, c1, rfl, hc1, hm1, r1, b1⟩
    rw [Hl.out] at hc1 r1 ⊢
    have r1' := lent_take Hl.out r1
    have hb1 := hb.below b1
    go_wp2_with fail
    by_cases hy : n < 4 ∨ sealOf (b.take (n - 4)) ≠ b
    · refine (open_no A1 n c1 b w1 r1' (by omega) hm1 (by omega) hy).mono ?_
      rintro e w2 ⟨rfl, b2⟩
      go_wp2_with fail
      have hr2 : Calls Try.prog 21 #[.slice A n c] w2 (Refused w2 20) := by
        by_cases h4 : n < 4
        · exact refOpen_short A n c w2 h4
        · have h := refOpen_any A (n - 4) c b w2 (by rw [show n - 4 + 4 = n from by omega]; exact hb1.below b2) (by omega) Hcm.out (by omega)
          rw [show n - 4 + 4 = n from by omega] at h
          refine h.mono fun e w' hd => ?_
          rcases hd with ⟨h1, _⟩ | ⟨_, h1⟩
          · exact absurd h1 (hy.resolve_left h4)
          · exact h1
      refine hr2.mono ?_
      rintro e w3 ⟨rfl, b3⟩
      have b23 := b2.trans (b3.mono b2.size)
      have k7 := (Rd.nil (A := none) (w := w3)).conv (P := Try.prog) 0 22 5 9 Try.underlying22 Try.underlying5 Try.underlying9
      clear hy hr2 b2 b3
      go_wp2_with fail
      clear k7
      go_loop [9] (fun i => i = .int .i64 0) (fun _ => 0)
      case atStart => rfl
      case round =>
        obtain rfl := hrel
        go_wp2_with fail
        refine (seals_any w3).mono ?_
        rintro e w4 ⟨rfl, b4⟩
        have b24 := b23.trans (b4.mono b23.size)
        go_wp2_with fail
        refine (kept_yes A1 A n c1 c b w4 (r1.below b24) hc1 hm1 (hb1.below b24)).mono ?_
        rintro e w5 ⟨rfl, rfl⟩
        go_wp2
        go_ret
        exact ⟨rfl, b1.trans (b24.mono b1.size)⟩
    · obtain ⟨k, rfl⟩ : ∃ k, n = k + 4 := ⟨n - 4, by omega⟩
      have hy2 : sealOf (b.take k) = b := by
        rcases Classical.em (sealOf (b.take k) = b) with h | h
        · exact h
        · exact absurd (.inr h) hy
      clear hy
      refine (open_yes A1 (k + 4) c1 b w1 r1' (by omega) (by omega) hm1 (by omega) hy2).mono ?_
      rw [show k + 4 - 4 = k from rfl]
      rintro e w2 ⟨v2, rfl, o2, b2⟩
      have hr2 : Calls Try.prog 21 #[.slice A (k + 4) c] w2 fun e w' => e = .returned (.tuple #[.slice A k c, .int .i64 0]) ∧ Below w2.heap.size w2 w' := by
        refine (refOpen_any A k c b w2 (hb1.below b2) (by omega) Hcm.out (by omega)).mono fun e w' hd => ?_
        rcases hd with ⟨_, h⟩ | ⟨h1, _⟩
        · exact h
        · exact absurd hy2 h1
      go_wp2_with fail
      refine hr2.mono ?_
      rintro e w3 ⟨rfl, b3⟩
      have b23 := b2.trans (b3.mono b2.size)
      have Hk : Hid ((b.take k).length = k) := Lib.hid (by rw [List.length_take, Hl.out]; omega)
      have o3 := o2.below b3
      obtain ⟨A3, c3, rfl, hc3, hm3, r3⟩ := o3.shapeN (n := k) Hk.out
      have k7 := r3.conv (P := Try.prog) c3 22 5 9 Try.underlying22 Try.underlying5 Try.underlying9
      have k8 := ((hb1.below b23).take (k := k) (by omega)).conv (P := Try.prog) c 22 5 9 Try.underlying22 Try.underlying5 Try.underlying9
      clear hy2 hr2 o2 r3
      go_wp2_with fail
      clear k7 k8
      go_loopw [9] (FillRel w1.heap.size w3 k (.slice A3 k c3)) (fun i _ => k - (intOf i).toNat)
      case atStart => exact ⟨0, by omega, rfl, ⟨_, Hk.out, o3⟩, Below.refl _ _⟩
      case round =>
        clear o3
        obtain ⟨j, hj, rfl, ⟨l2, hl2, o4⟩, b4⟩ := hrel
        by_cases hlt : j < k
        · obtain ⟨g, cap, hv, hg, _, _⟩ := o4.form (by omega)
          rw [hl2] at hv
          injection hv with e1 e2 e3
          subst e1
          subst e3
          obtain ⟨x, hx, hc⟩ := o4.cell hl2 hlt
          have hf := o4.free hl2 j
          have o5 := o4.set hl2 j 7
          have Hl2 : Hid ((l2.set j 7).length = k) := Lib.hid (by rw [List.length_set]; exact hl2)
          have b5 := b4.setCell (p := ⟨g, j, none⟩) hg (bv 7)
          clear hx hl2 o4
          go_wp2
          go_roundw
          case rel => exact ⟨j + 1, by omega, by go_num, ⟨_, Hl2.out, o5⟩, b5⟩
          case measure => simp [intOf]; omega
        · obtain rfl : j = k := by omega
          have b24 := b23.trans b4
          go_wp2_with fail
          refine (seals_any wr).mono ?_
          rintro e w5 ⟨rfl, b5⟩
          have b25 := b24.trans (b5.mono b24.size)
          go_wp2_with fail
          refine (kept_yes A1 A (j + 4) c1 c b w5 (r1.below b25) hc1 hm1 (hb1.below b25)).mono ?_
          rintro e w6 ⟨rfl, rfl⟩
          go_wp2
          go_ret
          exact ⟨rfl, b1.trans (b25.mono b1.size)⟩
end Go.Proofs.Ytpainpekapnbhaa

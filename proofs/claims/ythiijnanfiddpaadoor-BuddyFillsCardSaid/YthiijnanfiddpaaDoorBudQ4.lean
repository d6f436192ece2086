/-
  What the library's heap does with the blocks that wait: contracts, one a function.
-/
import Derived.Test.YthiijnanfiddpaaDoorBudQ3
import Derived.Deep.DeepCutAuto
namespace Go.Proofs.YthiijnanfiddpaaDoor
open Go.RowKit

/-- A heap as far as n from k on is made, out of the same blocks; from n on all stay. -/
def DownTo (w : World) (base g : Nat) (v : Value) (l : List Blk) (n k : Nat) (l' : List Blk) (w' : World) : Prop :=
  l'.Perm l ∧ (∀ j, n ≤ j → nth l' j = nth l j) ∧ HeapFrom l' n k ∧ Waits w base g v l' v w'
/-- So far. -/
def DownRel (w : World) (base g : Nat) (v : Value) (l : List Blk) (n i0 : Nat) (i : Value) (wr : World) : Prop :=
  ∃ (k : Nat) (l' : List Blk), i = .int .i64 (k : Int) ∧ i0 ≤ k ∧ k ≤ 1000 ∧ l'.Perm l ∧ (∀ j, n ≤ j → nth l' j = nth l j) ∧ HeapBut l' n i0 k ∧ Waits w base g v l' v wr
theorem DownRel.done {w wr w1 : World} {base g n i0 : Nat} {v : Value} {l l' : List Blk} (hp : l'.Perm l) (hs : ∀ j, n ≤ j → nth l' j = nth l j) (hh : HeapFrom l' n i0) (hw : Waits w base g v l' v wr) (hg : Grew wr w1) :
    ∃ l', DownTo w base g v l n i0 l' w1 := ⟨l', hp, hs, hh, hw.below hg.below⟩
/-- One step. -/
theorem DownRel.next {w wr w1 w2 : World} {base g n i0 k j : Nat} {v : Value} {l l' : List Blk} (hp : l'.Perm l) (hs : ∀ j, n ≤ j → nth l' j = nth l j) (hh : HeapBut l' n i0 k) (hw : Waits w base g v l' v wr) (hg : Grew wr w1)
    (hk : i0 ≤ k) (hl : l'.length ≤ 1000) (hn : n ≤ l'.length) (hj : j = 2 * k + 1 ∨ j = 2 * k + 2) (hjn : j < n) (hlq : Lq (nth l' j) (nth l' k)) (ho : ∀ c, (c = 2 * k + 1 ∨ c = 2 * k + 2) → c < n → Lq (nth l' j) (nth l' c))
    (h2 : Waits w1 base g v (swp2 l' k j) v w2) : DownRel w base g v l n i0 (.int .i64 (j : Int)) w2 := by
  refine ⟨j, swp2 l' k j, rfl, by omega, by omega, (swp2_perm (by omega) (by omega)).trans hp, fun m hm => ?_, hh.down hk hn hj hjn hlq ho, (hw.below hg.below).trans h2⟩
  rw [nth_swp2 (by omega) (by omega), if_neg (by omega), if_neg (by omega)]
  exact hs m hm

set_option maxRecDepth 100000 in
set_option maxHeartbeats 4000000 in
theorem down_any (base g : Nat) (v : Value) (l : List Blk) (i0 n : Nat) (w : World) (h : QAt w base g v l) (hn : n ≤ l.length) (hl : l.length ≤ 1000) (hi : i0 ≤ 1000) (hk : HeapFrom l n (i0 + 1)) :
    Calls Tryd.prog 74 #[qi g, .int .i64 (i0 : Int), .int .i64 (n : Int)] w fun e w' => (∃ r : Value, e = .returned r) ∧ ∃ l', DownTo w base g v l n i0 l' w' := by
  have mL := run_iLess g
  have mS := run_iSwap g
  unfold qi
  go_enter Tryd.func74, Tryd.ntmps74
  go_wp2
  go_loopw [7] (DownRel w base g v l n i0) (fun i _ => 1001 - (intOf i).toNat)
  case atStart => exact ⟨i0, l, rfl, Nat.le_refl _, hi, List.Perm.refl _, fun _ _ => rfl, heapBut_of hk, h.waits (Below.refl _ _)⟩
  case round =>
    clear h hk
    obtain ⟨k, l', rfl, hik, hk1, hp, hs, hh, hw⟩ := hrel
    have hlen := hp.length_eq
    rw [← hlen] at hn hl
    have hq := hw.1
    obtain ⟨a, ha⟩ : ∃ a, a = 2 * k + 1 := ⟨_, rfl⟩
    obtain ⟨b, hb⟩ : ∃ b, b = 2 * k + 2 := ⟨_, rfl⟩
    have e1 := Lib.hid (show (2 : Int) * (k : Int) + 1 = (a : Int) by omega)
    have e2 := Lib.hid (show (a : Int) + 1 = (b : Int) by omega)
    have HA := Lib.hid (show a = 2 * k + 1 ∧ b = 2 * k + 2 from ⟨ha, hb⟩)
    have hab : a < b := by omega
    have ha1 : a ≤ 2001 := by omega
    have hb1 : b ≤ 2002 := by omega
    have hka : k < a := by omega
    have hbn : a < n → b ≤ n := by omega
    clear ha hb
    go_upto_region 3 with (fail)
    rw [e1.out]
    clear e1
    by_cases h1 : n ≤ a
    · have t1 : decide ((n : Int) ≤ (a : Int)) = true := by simp; omega
      clear e2
      go_wp2
      go_ret
      exact ⟨⟨_, rfl⟩, DownRel.done hp hs (hh.none (by have := HA.out; omega)) hw (Grew.refl _)⟩
    · have t1 : decide ((n : Int) ≤ (a : Int)) = false := by simp; omega
      go_upto_region 6 with (fail)
      rw [e2.out]
      clear e2
      by_cases h2 : b < n
      · have t2 : decide ((b : Int) < (n : Int)) = true := by simp; omega
        cases r1 : lessB (nth l' b) (nth l' a) with
        | false =>
          have L1 := qLess_any base g v l' b a wr hq (by omega) (by omega)
          rw [r1] at L1
          go_upto_region 8 with (go_at_call 112; refine L1.mono ?_; rintro e w1 ⟨rfl, G1⟩)
          clear L1
          cases r2 : lessB (nth l' a) (nth l' k) with
          | false =>
            have L2 := fun G => qLess_any base g v l' a k w1 (hq.below (G : Grew wr w1).below) (by omega) (by omega)
            rw [r2] at L2
            go_wp2_with (go_at_call_of 112 k; refine (L2 (G1)).mono ?_; rintro e w2 ⟨rfl, G2⟩)
            go_ret
            exact ⟨⟨_, rfl⟩, DownRel.done hp hs (hh.fits (fun _ => by rw [← HA.out.1]; exact lessB_no r2) (fun _ => by rw [← HA.out.2]; exact (lessB_no r2).trans (lessB_no r1))) hw ((G1).trans G2)⟩
          | true =>
            have L2 := fun G => qLess_any base g v l' a k w1 (hq.below (G : Grew wr w1).below) (by omega) (by omega)
            rw [r2] at L2
            go_wp2_with (first | (go_at_call_of 112 k; refine (L2 (G1)).mono ?_; rintro e w2 ⟨rfl, G2⟩) | (go_at_call 115; refine (qSwap_any base g v l' k a w2 (hq.below ((G1).trans G2).below) (by omega) (by omega)).mono ?_; rintro e w3 ⟨rfl, hw3⟩))
            go_roundw
            case rel => exact DownRel.next hp hs hh hw ((G1).trans G2) hik hl hn (by have := HA.out; omega) (by omega) (lessB_yes r2) (fun c hc _ => by rcases hc with rfl | rfl; rw [← HA.out.1]; exact Lq.refl _; rw [← HA.out.2]; exact lessB_no r1) hw3
            case measure => simp [intOf]; omega
        | true =>
          have L1 := qLess_any base g v l' b a wr hq (by omega) (by omega)
          rw [r1] at L1
          go_upto_region 8 with (go_at_call 112; refine L1.mono ?_; rintro e w1 ⟨rfl, G1⟩)
          clear L1
          cases r2 : lessB (nth l' b) (nth l' k) with
          | false =>
            have L2 := fun G => qLess_any base g v l' b k w1 (hq.below (G : Grew wr w1).below) (by omega) (by omega)
            rw [r2] at L2
            go_wp2_with (go_at_call_of 112 k; refine (L2 (G1)).mono ?_; rintro e w2 ⟨rfl, G2⟩)
            go_ret
            exact ⟨⟨_, rfl⟩, DownRel.done hp hs (hh.fits (fun _ => by rw [← HA.out.1]; exact (lessB_no r2).trans (lessB_yes r1)) (fun _ => by rw [← HA.out.2]; exact lessB_no r2)) hw ((G1).trans G2)⟩
          | true =>
            have L2 := fun G => qLess_any base g v l' b k w1 (hq.below (G : Grew wr w1).below) (by omega) (by omega)
            rw [r2] at L2
            go_wp2_with (first | (go_at_call_of 112 k; refine (L2 (G1)).mono ?_; rintro e w2 ⟨rfl, G2⟩) | (go_at_call 115; refine (qSwap_any base g v l' k b w2 (hq.below ((G1).trans G2).below) (by omega) (by omega)).mono ?_; rintro e w3 ⟨rfl, hw3⟩))
            go_roundw
            case rel => exact DownRel.next hp hs hh hw ((G1).trans G2) hik hl hn (by have := HA.out; omega) (by omega) (lessB_yes r2) (fun c hc _ => by rcases hc with rfl | rfl; rw [← HA.out.1]; exact lessB_yes r1; rw [← HA.out.2]; exact Lq.refl _) hw3
            case measure => simp [intOf]; omega
      · have t2 : decide ((b : Int) < (n : Int)) = false := by simp; omega
        cases r2 : lessB (nth l' a) (nth l' k) with
        | false =>
          have L2 := fun G => qLess_any base g v l' a k wr (hq.below (G : Grew wr wr).below) (by omega) (by omega)
          rw [r2] at L2
          go_wp2_with (go_at_call_of 112 k; refine (L2 (Grew.refl wr)).mono ?_; rintro e w2 ⟨rfl, G2⟩)
          go_ret
          exact ⟨⟨_, rfl⟩, DownRel.done hp hs (hh.fits (fun _ => by rw [← HA.out.1]; exact lessB_no r2) (fun h => absurd h (by have := HA.out; omega))) hw ((Grew.refl wr).trans G2)⟩
        | true =>
          have L2 := fun G => qLess_any base g v l' a k wr (hq.below (G : Grew wr wr).below) (by omega) (by omega)
          rw [r2] at L2
          go_wp2_with (first | (go_at_call_of 112 k; refine (L2 (Grew.refl wr)).mono ?_; rintro e w2 ⟨rfl, G2⟩) | (go_at_call 115; refine (qSwap_any base g v l' k a w2 (hq.below ((Grew.refl wr).trans G2).below) (by omega) (by omega)).mono ?_; rintro e w3 ⟨rfl, hw3⟩))
          go_roundw
          case rel => exact DownRel.next hp hs hh hw ((Grew.refl wr).trans G2) hik hl hn (by have := HA.out; omega) (by omega) (lessB_yes r2) (fun c hc hcn => by rcases hc with rfl | rfl; rw [← HA.out.1]; exact Lq.refl _; have := HA.out; omega) hw3
          case measure => simp [intOf]; omega
end Go.Proofs.YthiijnanfiddpaaDoor

/-
  What the library's heap does with the blocks that wait, further: up, Init, Push and Pop: contracts, one a function.
-/
import Derived.Test.YthiijnanfiddpaaDoorBudQ4
namespace Go.Proofs.YthiijnanfiddpaaDoor
open Go.RowKit

/-- What waits is a heap of these blocks. -/
def Made (w : World) (base g : Nat) (v : Value) (l l' : List Blk) (v' : Value) (w' : World) : Prop := l'.Perm l ∧ HeapFrom l' l'.length 0 ∧ Waits w base g v l' v' w'
def UpRel (w : World) (base g : Nat) (v : Value) (l : List Blk) (i : Value) (wr : World) : Prop :=
  ∃ (k : Nat) (l' : List Blk), i = .int .i64 (k : Int) ∧ k < l'.length ∧ l'.Perm l ∧ HeapUp l' k ∧ Waits w base g v l' v wr
theorem UpRel.next {w wr w1 w2 : World} {base g k p : Nat} {v : Value} {l l' : List Blk} (hp : l'.Perm l) (hh : HeapUp l' k) (hw : Waits w base g v l' v wr) (hg : Grew wr w1)
    (hk : k < l'.length) (hj : k = 2 * p + 1 ∨ k = 2 * p + 2) (hlq : Lq (nth l' k) (nth l' p)) (h2 : Waits w1 base g v (swp2 l' p k) v w2) : UpRel w base g v l (.int .i64 (p : Int)) w2 :=
  ⟨p, swp2 l' p k, rfl, by rw [swp2_length]; omega, (swp2_perm (by omega) hk).trans hp, hh.up hj hk hlq, (hw.below hg.below).trans h2⟩

set_option maxRecDepth 100000 in
set_option maxHeartbeats 4000000 in
theorem up_any (base g : Nat) (v : Value) (l : List Blk) (j : Nat) (w : World) (h : QAt w base g v l) (hj : j < l.length) (hl : l.length ≤ 1001) (hk : HeapUp l j) :
    Calls Tryd.prog 78 #[qi g, .int .i64 (j : Int)] w fun e w' => e = .returned (.tuple #[]) ∧ ∃ l', Made w base g v l l' v w' := by
  have mL := run_iLess g
  have mS := run_iSwap g
  unfold qi
  go_enter Tryd.func78, Tryd.ntmps78
  go_wp2
  go_loopw [1] (UpRel w base g v l) (fun i _ => (intOf i).toNat)
  case atStart => exact ⟨j, l, rfl, hj, List.Perm.refl _, hk, h.waits (Below.refl _ _)⟩
  case round =>
    clear h hk hj
    obtain ⟨k, l', rfl, hkl, hp, hh, hw⟩ := hrel
    have hlen := hp.length_eq
    rw [← hlen] at hl
    have hq := hw.1
    by_cases h0 : k = 0
    · subst h0
      go_wp2
      go_end0
      exact ⟨rfl, l', hp, hh.top, hw⟩
    · obtain ⟨p, hpk⟩ : ∃ p, p = (k - 1) / 2 := ⟨_, rfl⟩
      have e1 := Lib.hid (show ((k : Int) - 1) / 2 = (p : Int) by omega)
      have HA := Lib.hid (show k = 2 * p + 1 ∨ k = 2 * p + 2 by omega)
      have hpk2 : p < k := by omega
      have hk1 : 1 ≤ k := by omega
      clear hpk
      go_upto_region 1 with (fail)
      rw [e1.out]
      clear e1
      have t1 : ((p : Int) == (k : Int)) = false := by simp; omega
      have L1 := qLess_any base g v l' k p wr hq hkl (by omega)
      cases r1 : lessB (nth l' k) (nth l' p) with
      | false =>
        rw [r1] at L1
        go_wp2_with (go_at_call 112; refine L1.mono ?_; rintro e w1 ⟨rfl, G1⟩)
        go_end0
        exact ⟨rfl, l', hp, hh.fits HA.out (lessB_no r1), hw.below G1.below⟩
      | true =>
        rw [r1] at L1
        go_wp2_with (first | (go_at_call 112; refine L1.mono ?_; rintro e w1 ⟨rfl, G1⟩) | (go_at_call 115; refine (qSwap_any base g v l' p k w1 (hq.below G1.below) (by omega) hkl).mono ?_; rintro e w2 ⟨rfl, hw2⟩))
        go_roundw
        case rel => exact UpRel.next hp hh hw G1 hkl HA.out (lessB_yes r1) hw2
        case measure => simp [intOf]; omega

/-- So far. -/
def InitRel (w : World) (base g : Nat) (v : Value) (l : List Blk) (i : Value) (wr : World) : Prop :=
  ∃ (k : Nat) (l' : List Blk), i = .int .i64 ((k : Int) - 1) ∧ k ≤ l.length / 2 ∧ l'.Perm l ∧ HeapFrom l' l.length k ∧ Waits w base g v l' v wr

set_option maxRecDepth 100000 in
set_option maxHeartbeats 4000000 in
theorem init_any (base g : Nat) (v : Value) (l : List Blk) (w : World) (h : QAt w base g v l) (hl : l.length ≤ 1000) :
    Calls Tryd.prog 58 #[qi g] w fun e w' => e = .returned (.tuple #[]) ∧ ∃ l', Made w base g v l l' v w' := by
  have mL := run_iLen g
  have S := qLen_any base g v l w h
  obtain ⟨n, hn⟩ : ∃ n, n = l.length := ⟨_, rfl⟩
  rw [← hn] at S hl
  have HN := Lib.hid hn
  have hi : qi g = .iface 66 (qv g) := rfl
  have HD := fun (W : World) (l' : List Blk) (i : Nat) (hq : QAt W base g v l') (h1 : l'.length = n) (hi : i ≤ 1000) (hh : HeapFrom l' n (i + 1)) => down_any base g v l' i n W hq (by omega) (by omega) hi hh
  rw [hi] at HD
  have HH := Lib.hid HD
  clear HD hi
  unfold qi
  have Hh := Lib.hid h
  clear h hn
  go_enter Tryd.func58, Tryd.ntmps58
  go_wp2_with (go_at_call 64; refine S.mono ?_; rintro e w1 ⟨rfl, G1⟩)
  clear S
  go_loopw [3] (InitRel w base g v l) (fun i _ => (intOf i + 1).toNat)
  case atStart =>
    exact ⟨n / 2, l, by go_num, by rw [HN.out]; exact Nat.le_refl _, List.Perm.refl _, fun j c hj hc hcn => by have := HN.out; omega, Hh.out.waits G1.below⟩
  case round =>
    obtain ⟨k, l', rfl, hkn, hp, hh, hw⟩ := hrel
    rw [← HN.out] at hkn hh
    have hlen := hp.length_eq
    by_cases h0 : k = 0
    · subst h0
      have hd := Lib.hid hh
      clear hh
      go_wp2
      go_end0
      exact ⟨rfl, l', hp, by rw [hlen, ← HN.out]; exact hd.out, hw⟩
    · obtain ⟨m, rfl⟩ : ∃ m, k = m + 1 := ⟨k - 1, by omega⟩
      have hm : m ≤ 1000 := by omega
      have e1 : ((m + 1 : Nat) : Int) - 1 = (m : Int) := by omega
      rw [e1]
      clear e1
      have D := HH.out wr l' m hw.1 (by rw [hlen, ← HN.out]) hm hh
      have hd := Lib.hid hh
      clear hh
      go_wp2_with (go_at_call 74; refine D.mono ?_; rintro e w2 ⟨⟨rv, rfl⟩, l2, hp2, hs2, hh2, hw2⟩)
      go_roundw
      case rel => exact ⟨m, l2, rfl, by have := HN.out; omega, hp2.trans hp, by rw [← HN.out]; exact hh2, hw.trans hw2⟩
      case measure => simp [intOf]
end Go.Proofs.YthiijnanfiddpaaDoor

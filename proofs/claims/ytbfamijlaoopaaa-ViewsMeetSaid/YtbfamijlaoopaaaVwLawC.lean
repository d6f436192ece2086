/-
  ViewsTurns: the walk of the law.
-/
import Derived.Test.YtbfamijlaoopaaaVwLawB
namespace Go.Proofs.Ytbfamijlaoopaaa
open Go.RowKit
/-- Of as many views as there are nodes just one has a node as its primary. -/
theorem turn_one {n v id : Int} (hn : isN n = true) (h0 : 0 ≤ v) (h1 : v ≤ 800000000) (hi : 1 ≤ id) (hi2 : id ≤ n) : ∃ c : Nat, 1 ≤ c ∧ (c : Int) ≤ n ∧ ∀ k : Nat, 1 ≤ k → (k : Int) ≤ n → (prim n (v + (k : Int)) = id ↔ k = c) := by
  have hnn := isN_cases hn
  have e1 : 0 ≤ (id - 1 - v - 1) % n := Int.emod_nonneg _ (by omega)
  have e2 : (id - 1 - v - 1) % n < n := Int.emod_lt_of_pos _ (by omega)
  refine ⟨((id - 1 - v - 1) % n + 1).toNat, by omega, by omega, fun k hk hkn => ?_⟩
  rw [prim_turn hn h0 h1 hi hi2 k hk hkn]
  omega
theorem cntN_at {p : Int → Bool} {c N : Nat} (h : ∀ k : Nat, 1 ≤ k → k ≤ N → (p (k : Int) = true ↔ k = c)) : ∀ k, k ≤ N → cntN p k = if 1 ≤ c ∧ c ≤ k then 1 else 0
  | 0, _ => by
    rw [if_neg (by omega)]
    rfl
  | k + 1, hk => by
    rw [cntN_succ, cntN_at h k (by omega)]
    have h1 := h (k + 1) (by omega) hk
    by_cases e : k + 1 = c
    · rw [if_pos (h1.2 e), if_neg (by omega), if_pos (by omega)]
    · rw [if_neg fun q => e (h1.1 q)]
      by_cases e2 : 1 ≤ c ∧ c ≤ k
      · rw [if_pos e2, if_pos (by omega)]
      · rw [if_neg e2, if_neg (by omega)]
def TuRel (w : World) (N : Nat) (p : Int → Bool) (s i : Value) (wr : World) : Prop := ∃ k : Nat, k ≤ N ∧ i = .int .i64 ((k : Int) + 1) ∧ s = .int .i64 ((cntN p k : Nat) : Int) ∧ Below w.heap.size w wr
set_option maxHeartbeats 4000000 in
theorem viewsTurns_walk (nodes view id : Int) (w : World) : Calls Try.prog 7 #[.int .i64 nodes, .int .i64 view, .int .i64 id] w (Holds w) := by
  have HA := Lib.hid asks_any
  have HB := Lib.hid (Below.refl w.heap.size w)
  have HN := Lib.hid (fun W => vnodes_any nodes W)
  cases hn : isN nodes
  · rw [hn] at HN
    have hx : nextV nodes view id = -1 := by unfold nextV; rw [hn]; rfl
    have HX := Lib.hid (fun W => vnext_any nodes view id W)
    rw [hx] at HX
    clear hx hn
    go_enter Try.func7, Try.ntmps7
    go_wp2_with (first | (go_at_call 12; refine (HN.out _).mono ?_; rintro x W ⟨rfl, b⟩; have HB := Lib.hid (HB.out.trans (b.mono HB.out.size)); clear b) | (go_at_call 16; refine (HX.out _).mono ?_; rintro x W ⟨rfl, b⟩; have HB := Lib.hid (HB.out.trans (b.mono HB.out.size)); clear b) | (go_at_call 11; refine (HA.out _).mono ?_; rintro x W ⟨rfl, b⟩; have HB := Lib.hid (HB.out.trans (b.mono HB.out.size)); clear b))
    go_ret
    exact ⟨rfl, HB.out⟩
  · rw [hn] at HN
    by_cases h1 : view < 0
    · clear hn
      go_enter Try.func7, Try.ntmps7
      go_wp2_with (first | (go_at_call 12; refine (HN.out _).mono ?_; rintro x W ⟨rfl, b⟩; have HB := Lib.hid (HB.out.trans (b.mono HB.out.size)); clear b) | (go_at_call 11; refine (HA.out _).mono ?_; rintro x W ⟨rfl, b⟩; have HB := Lib.hid (HB.out.trans (b.mono HB.out.size)); clear b))
      go_ret
      exact ⟨rfl, HB.out⟩
    · by_cases h2 : 800000000 < view
      · clear hn
        go_enter Try.func7, Try.ntmps7
        go_wp2_with (first | (go_at_call 12; refine (HN.out _).mono ?_; rintro x W ⟨rfl, b⟩; have HB := Lib.hid (HB.out.trans (b.mono HB.out.size)); clear b) | (go_at_call 11; refine (HA.out _).mono ?_; rintro x W ⟨rfl, b⟩; have HB := Lib.hid (HB.out.trans (b.mono HB.out.size)); clear b))
        go_ret
        exact ⟨rfl, HB.out⟩
      · by_cases h3 : id < 1
        · clear hn
          go_enter Try.func7, Try.ntmps7
          go_wp2_with (first | (go_at_call 12; refine (HN.out _).mono ?_; rintro x W ⟨rfl, b⟩; have HB := Lib.hid (HB.out.trans (b.mono HB.out.size)); clear b) | (go_at_call 11; refine (HA.out _).mono ?_; rintro x W ⟨rfl, b⟩; have HB := Lib.hid (HB.out.trans (b.mono HB.out.size)); clear b))
          go_ret
          exact ⟨rfl, HB.out⟩
        · by_cases h4 : nodes < id
          · clear hn
            go_enter Try.func7, Try.ntmps7
            go_wp2_with (first | (go_at_call 12; refine (HN.out _).mono ?_; rintro x W ⟨rfl, b⟩; have HB := Lib.hid (HB.out.trans (b.mono HB.out.size)); clear b) | (go_at_call 11; refine (HA.out _).mono ?_; rintro x W ⟨rfl, b⟩; have HB := Lib.hid (HB.out.trans (b.mono HB.out.size)); clear b))
            go_ret
            exact ⟨rfl, HB.out⟩
          · obtain ⟨N, rfl⟩ : ∃ N : Nat, nodes = (N : Int) := ⟨nodes.toNat, by have := isN_cases hn; omega⟩
            have hN7 : N ≤ 7 := by have := isN_cases hn; omega
            obtain ⟨c, hc1, hc2, hc⟩ := turn_one (v := view) (id := id) hn (by omega) (by omega) (by omega) (by omega)
            have hx : nextV (N : Int) view id = view + (c : Int) := nextV_is hn (isV_iff.2 ⟨by omega, by omega⟩) (by omega) hc1 hc2 ((hc c hc1 hc2).2 rfl) (fun i a b d => by have := (hc i a (by omega)).1 d; omega)
            have HX := Lib.hid (fun W => vnext_any (N : Int) view id W)
            rw [hx] at HX
            have HP := Lib.hid (fun (k : Nat) W => vprim_any (N : Int) (view + ((k : Int) + 1)) W)
            obtain ⟨p, hp⟩ : ∃ p : Int → Bool, p = fun x => prim (N : Int) (view + x) == id := ⟨_, rfl⟩
            have HPk := Lib.hid (show ∀ k : Nat, k < N → p ((k + 1 : Nat) : Int) = decide (k + 1 = c) from fun k hk => by
              have h := hc (k + 1) (by omega) (by omega)
              rw [hp]
              by_cases e : k + 1 = c
              · rw [decide_eq_true e]; simpa using h.2 e
              · rw [decide_eq_false e]; simpa using fun q => e (h.1 (by rw [← q]; rfl)))
            have HK := Lib.hid (show ∀ k : Nat, k < N → (prim (N : Int) (view + ((k : Int) + 1)) = id ↔ k + 1 = c) from fun k hk => by
              have h := hc (k + 1) (by omega) (by omega)
              rw [show ((k + 1 : Nat) : Int) = (k : Int) + 1 by omega] at h
              exact h)
            have HCt := Lib.hid (show cntN p N = 1 by
              rw [cntN_at (p := p) (c := c) (N := N) (fun k a b => by
                have h := hc k a (by omega)
                rw [hp]
                simpa using h) N (Nat.le_refl _), if_pos (by omega)])
            clear hn hc hx hp
            go_enter Try.func7, Try.ntmps7
            go_upto_region 3 with (go_at_call 12; refine (HN.out _).mono ?_; rintro x W ⟨rfl, b⟩; have HB := Lib.hid (HB.out.trans (b.mono HB.out.size)); clear b)
            clear HN
            go_wp2
            go_loopw [7, 8] (TuRel w N p) (fun _ i _ => N + 1 - (Go.RowKit.intOf i).toNat)
            case atStart => exact ⟨0, Nat.zero_le _, rfl, rfl, HB.out⟩
            case round =>
              obtain ⟨k, hk, rfl, rfl, hb⟩ := hrel
              have HB := Lib.hid hb
              clear hb
              have hcl := cntN_le p k
              by_cases hlt : k < N
              · have hki : (k : Int) + 1 ≤ (N : Int) := by omega
                have hs := cntN_succ p k
                rw [HPk.out k hlt] at hs
                generalize cntN p k = S at hs hcl
                have hkk := HK.out k hlt
                have HPr := Lib.hid (HP.out k)
                generalize prim (N : Int) (view + ((k : Int) + 1)) = P at hkk HPr
                by_cases e : k + 1 = c
                · have e1 : P = id := hkk.2 e
                  have t1 : (P == id) = true := by simp [e1]
                  have t2 : decide (P = id) = true := by simp [e1]
                  rw [decide_eq_true e] at hs
                  have Hs := Lib.hid hs
                  have ec : (c : Int) = (k : Int) + 1 := by omega
                  rw [ec] at HX
                  clear hs hkk e1 ec
                  go_wp2_with (first | (go_at_call 14; refine (HPr.out _).mono ?_; rintro x W ⟨rfl, b⟩; have HB := Lib.hid (HB.out.trans (b.mono HB.out.size)); clear b) | (go_at_call 16; refine (HX.out _).mono ?_; rintro x W ⟨rfl, b⟩; have HB := Lib.hid (HB.out.trans (b.mono HB.out.size)); clear b))
                  go_roundw
                  case rel => exact ⟨k + 1, by omega, by go_num, by rw [Hs.out]; first | rfl | go_num, HB.out⟩
                  case measure => simp [Go.RowKit.intOf]; omega
                · have e1 : ¬ P = id := fun q => e (hkk.1 q)
                  have t1 : (P == id) = false := by simp [e1]
                  have t2 : decide (P = id) = false := by simp [e1]
                  rw [decide_eq_false e] at hs
                  have Hs := Lib.hid hs
                  clear hs hkk e1 e
                  go_wp2_with (go_at_call 14; refine (HPr.out _).mono ?_; rintro x W ⟨rfl, b⟩; have HB := Lib.hid (HB.out.trans (b.mono HB.out.size)); clear b)
                  go_roundw
                  case rel => exact ⟨k + 1, by omega, by go_num, by rw [Hs.out]; simp, HB.out⟩
                  case measure => simp [Go.RowKit.intOf]; omega
              · obtain rfl : k = N := by omega
                have hki : ¬ ((k : Int) + 1 ≤ (k : Int)) := by omega
                rw [HCt.out]
                go_wp2_with (go_at_call 11; refine (HA.out _).mono ?_; rintro x W ⟨rfl, b⟩; have HB := Lib.hid (HB.out.trans (b.mono HB.out.size)); clear b)
                go_ret
                exact ⟨rfl, HB.out⟩
end Go.Proofs.Ytbfamijlaoopaaa

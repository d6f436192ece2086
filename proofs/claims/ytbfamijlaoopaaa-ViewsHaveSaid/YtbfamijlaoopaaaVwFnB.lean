/-
  The program's own Next and Enough: contracts.
-/
import Derived.Test.YtbfamijlaoopaaaVwFnA
namespace Go.Proofs.Ytbfamijlaoopaaa
open Go.RowKit
/-- The views that Next has passed by: none has this node as its primary. -/
def NnRel (W : World) (n v id : Int) (N : Nat) (i : Value) (wr : World) : Prop := ∃ k : Nat, 1 ≤ k ∧ k ≤ N + 1 ∧ i = .int .i64 (v + (k : Int)) ∧ (∀ j : Nat, 1 ≤ j → j < k → isV (v + (j : Int)) = true ∧ prim n (v + (j : Int)) ≠ id) ∧ wr = W
set_option maxHeartbeats 1000000 in
theorem vnext0 (n v id : Int) (w : World) : Calls Try.prog 16 #[.int .i64 n, .int .i64 v, .int .i64 id] w fun e w' => e = .returned (.int .i64 (nextV n v id)) ∧ w' = w := by
  have HN := vnodes0 n w
  have HV := isview0 v w
  have HI := isnode0 n id w
  cases hn : isN n
  · rw [show nextV n v id = -1 by unfold nextV; rw [hn]; rfl]
    rw [hn] at HN
    go_enter Try.func16, Try.ntmps16
    go_wp2_with (go_at_call 12; refine HN.mono ?_; rintro x W2 ⟨rfl, rfl⟩)
    go_ret
    exact ⟨rfl, rfl⟩
  · rw [hn] at HN
    cases hv : isV v
    · rw [show nextV n v id = -1 by unfold nextV; rw [hn, hv]; rfl]
      rw [hv] at HV
      go_enter Try.func16, Try.ntmps16
      go_wp2_with (first | (go_at_call 12; refine HN.mono ?_; rintro x W2 ⟨rfl, rfl⟩) | (go_at_call 26; refine HV.mono ?_; rintro x W2 ⟨rfl, rfl⟩))
      go_ret
      exact ⟨rfl, rfl⟩
    · rw [hv] at HV
      cases hi : isNd n id
      · rw [nextV_out (by rw [← isNd_iff, hi]; simp)]
        rw [hi] at HI
        go_enter Try.func16, Try.ntmps16
        go_wp2_with (first | (go_at_call 12; refine HN.mono ?_; rintro x W2 ⟨rfl, rfl⟩) | (go_at_call 26; refine HV.mono ?_; rintro x W2 ⟨rfl, rfl⟩) | (go_at_call 28; refine HI.mono ?_; rintro x W2 ⟨rfl, rfl⟩))
        go_ret
        exact ⟨rfl, rfl⟩
      · rw [hi] at HI
        have hb := isV_iff.1 hv
        have hd := isNd_iff.1 hi
        obtain ⟨N, rfl⟩ : ∃ N : Nat, n = (N : Int) := ⟨n.toNat, by have := isN_cases hn; omega⟩
        have hN7 : N ≤ 7 := by have := isN_cases hn; omega
        have Hn := Lib.hid hn
        have Hv := Lib.hid hv
        have Hd := Lib.hid hd
        clear hn hv hi hd
        go_enter Try.func16, Try.ntmps16
        go_wp2_with (first | (go_at_call 12; refine HN.mono ?_; rintro x W2 ⟨rfl, rfl⟩) | (go_at_call 26; refine HV.mono ?_; rintro x W2 ⟨rfl, rfl⟩) | (go_at_call 28; refine HI.mono ?_; rintro x W2 ⟨rfl, rfl⟩))
        clear HN HV HI
        go_loopw [7] (NnRel W2 N v id N) (fun i _ => N + 1 - (Go.RowKit.intOf i - v).toNat)
        case atStart => exact ⟨1, Nat.le_refl _, by omega, rfl, fun j a b => by omega, rfl⟩
        case round =>
          obtain ⟨k, h1, hk, rfl, hx, rfl⟩ := hrel
          have HX := Lib.hid hx
          clear hx
          have HV := isview0 (v + (k : Int)) wr
          by_cases hV : isV (v + (k : Int)) = true
          · have hkN : k ≤ N := by
              rcases Nat.lt_or_ge N k with hlt | hge
              · obtain ⟨k0, a, b, c⟩ := prim_some Hn.out Hd.out hb.1 (by
                  have := (HX.out N (by have := isN_cases Hn.out; omega) hlt).1
                  exact (isV_iff.1 this).2)
                exact absurd c (HX.out k0 a (by omega)).2
              · exact hge
            have hVb := isV_iff.1 hV
            rw [hV] at HV
            have HP := vprim0 N (v + (k : Int)) wr
            by_cases he : prim N (v + (k : Int)) = id
            · have hd1 : (prim N (v + (k : Int)) == id) = true := by simp [he]
              have hd2 : decide (prim N (v + (k : Int)) = id) = true := by simp [he]
              have HR := Lib.hid (nextV_is Hn.out Hv.out (by have := Hd.out; omega) h1 (by omega) he fun i a b => (HX.out i a b).2)
              clear he hV
              generalize prim N (v + (k : Int)) = P at HP hd1 hd2
              go_wp2_with (first | (go_at_call 26; refine HV.mono ?_; rintro x W3 ⟨rfl, rfl⟩) | (go_at_call 14; refine HP.mono ?_; rintro x W3 ⟨rfl, rfl⟩))
              go_ret
              exact ⟨by rw [HR.out]; rfl, rfl⟩
            · have hd1 : (prim N (v + (k : Int)) == id) = false := by simp [he]
              have hd2 : decide (prim N (v + (k : Int)) = id) = false := by simp [he]
              have HR := Lib.hid (show ∀ j : Nat, 1 ≤ j → j < k + 1 → isV (v + (j : Int)) = true ∧ prim N (v + (j : Int)) ≠ id from fun j a b => by
                rcases Nat.lt_or_ge j k with e | e
                · exact HX.out j a e
                · obtain rfl : j = k := by omega
                  exact ⟨hV, he⟩)
              clear he hV
              generalize prim N (v + (k : Int)) = P at HP hd1 hd2
              go_wp2_with (first | (go_at_call 26; refine HV.mono ?_; rintro x W3 ⟨rfl, rfl⟩) | (go_at_call 14; refine HP.mono ?_; rintro x W3 ⟨rfl, rfl⟩))
              go_roundw
              case rel => exact ⟨k + 1, by omega, by omega, by go_num, HR.out, rfl⟩
              case measure => simp [Go.RowKit.intOf]; omega
          · have hV0 : isV (v + (k : Int)) = false := by simpa using hV
            rw [hV0] at HV
            have HR := Lib.hid (nextV_none (n := (N : Int)) (v := v) (id := id) fun j a b => by
              rcases Nat.lt_or_ge j k with e | e
              · exact (HX.out j a e).2
              · have hj : isV (v + (j : Int)) = false := by
                  rw [← Bool.not_eq_true, isV_iff] at hV0 ⊢
                  omega
                rw [prim_no (.inr hj)]
                have := Hd.out
                omega)
            clear hV hV0
            go_wp2_with (first | (go_at_call 26; refine HV.mono ?_; rintro x W3 ⟨rfl, rfl⟩))
            go_ret
            exact ⟨by rw [HR.out]; rfl, rfl⟩
set_option maxHeartbeats 1000000 in
theorem vindex0 {A : Option Addr} {n c : Nat} {l : List Int} {w : World} (h : RdN w A n l) (hn : n ≤ 1000000) (x : Int) : Calls Try.prog 40 #[.slice A n c, .int .i64 x] w fun e w' => (∃ r : Int, e = .returned (.int .i64 r) ∧ (0 ≤ r ↔ x ∈ l)) ∧ w' = w := by
  have HL := Lib.hid h.len
  have HR := Lib.hid h
  clear h
  go_enter Try.func40, Try.ntmps40
  go_wp2
  go_loopw [8] (InRel w l x) (fun i _ => n - (Go.RowKit.intOf i).toNat)
  case atStart => exact ⟨0, Nat.zero_le _, rfl, by simp, rfl⟩
  case round =>
    obtain ⟨k, hk, rfl, hx, rfl⟩ := hrel
    have Hx := Lib.hid hx
    clear hx hk
    by_cases hlt : k < n
    · obtain ⟨b, off, y, rfl, hb, hy, hc⟩ := HR.out.cell hlt
      have Hy := Lib.hid hy
      have hki : (k : Int) < (n : Int) := by omega
      clear hy hb
      by_cases he : x = y
      · have hd : (x == y) = true := by simp [he]
        have hd2 : decide (x = y) = true := by simp [he]
        have hm : x ∈ l := List.mem_of_getElem? (by rw [Hy.out, he])
        have Hm := Lib.hid hm
        clear hm he
        go_wp2
        go_ret
        exact ⟨⟨k, rfl, by simp [Hm.out]⟩, rfl⟩
      · have hd : (x == y) = false := by simp [he]
        have hd2 : decide (x = y) = false := by simp [he]
        have hm : ¬ x ∈ l.take (k + 1) := by
          rw [take_mem Hy.out]
          rintro (h | h)
          · exact Hx.out h
          · exact he h
        have Hm := Lib.hid hm
        clear hm he
        go_wp2
        go_roundw
        case rel => exact ⟨k + 1, by have := HL.out; omega, by go_num, Hm.out, rfl⟩
        case measure => simp [Go.RowKit.intOf]; omega
    · have hm : ¬ x ∈ l := by
        have h1 := Hx.out
        rwa [List.take_of_length_le (by have := HL.out; omega)] at h1
      have Hm := Lib.hid hm
      have hki : ¬ ((k : Int) < (n : Int)) := by omega
      clear hm
      go_wp2
      go_ret
      exact ⟨⟨-1, rfl, by simp [Hm.out]⟩, rfl⟩
set_option maxHeartbeats 400000 in
theorem vcontains0 {A : Option Addr} {n c : Nat} {l : List Int} {w : World} (h : RdN w A n l) (hn : n ≤ 1000000) (x : Int) : Calls Try.prog 29 #[.slice A n c, .int .i64 x] w fun e w' => e = .returned (.bool (decide (x ∈ l))) ∧ w' = w := by
  have H := vindex0 (c := c) h hn x
  clear h
  go_enter Try.func29, Try.ntmps29
  go_wp2_with (go_at_call 40; refine H.mono ?_; rintro e W2 ⟨⟨r, rfl, hr⟩, rfl⟩; have Hr := Lib.hid hr; clear hr)
  go_ret
  exact ⟨by have := Hr.out; simp [this], rfl⟩
def EnoRel (W : World) (l : List Int) (N : Nat) (c i : Value) (wr : World) : Prop := ∃ k : Nat, k ≤ N ∧ i = .int .i64 ((k : Int) + 1) ∧ c = .int .i64 ((cntN (fun j => decide (j ∈ l)) k : Nat) : Int) ∧ wr = W
set_option maxHeartbeats 1000000 in
theorem venough0 {A : Option Addr} {m c : Nat} {l : List Int} {w : World} (h : RdN w A m l) (hm : m ≤ 1000000) (n : Int) : Calls Try.prog 18 #[.int .i64 n, .slice A m c] w fun e w' => e = .returned (.bool (enough n l)) ∧ w' = w := by
  have HN := vnodes0 n w
  cases hn : isN n
  · rw [show enough n l = false by unfold enough; rw [hn]; rfl]
    rw [hn] at HN
    clear h
    go_enter Try.func18, Try.ntmps18
    go_wp2_with (go_at_call 12; refine HN.mono ?_; rintro x W2 ⟨rfl, rfl⟩)
    go_ret
    exact ⟨rfl, rfl⟩
  · obtain ⟨N, rfl⟩ : ∃ N : Nat, n = (N : Int) := ⟨n.toNat, by have := isN_cases hn; omega⟩
    have hN7 : N ≤ 7 := by have := isN_cases hn; omega
    rw [hn] at HN
    have HE := Lib.hid (enough_cnt (l := l) hn)
    have HR := Lib.hid h
    clear h hn
    go_enter Try.func18, Try.ntmps18
    go_wp2_with (go_at_call 12; refine HN.mono ?_; rintro x W2 ⟨rfl, rfl⟩)
    clear HN
    go_loopw [5, 6] (EnoRel W2 l N) (fun _ i _ => N + 1 - (Go.RowKit.intOf i).toNat)
    case atStart => exact ⟨0, Nat.zero_le _, rfl, rfl, rfl⟩
    case round =>
      obtain ⟨k, hk, rfl, rfl, rfl⟩ := hrel
      have hck := cntN_le (fun j => decide (j ∈ l)) k
      have HI := isnode0 N ((k : Int) + 1) wr
      by_cases hlt : k < N
      · rw [show isNd N ((k : Int) + 1) = true by rw [isNd_iff]; omega] at HI
        have HC := vcontains0 (c := c) HR.out hm ((k : Int) + 1)
        have hs := cntN_succ (fun j => decide (j ∈ l)) k
        simp only [show ((k + 1 : Nat) : Int) = (k : Int) + 1 by omega] at hs
        generalize cntN (fun j => decide (j ∈ l)) k = C at hs hck
        generalize decide ((k : Int) + 1 ∈ l) = q at hs HC
        cases q
        · have Hs := Lib.hid (show cntN (fun j => decide (j ∈ l)) (k + 1) = C by rw [hs]; simp)
          clear hs
          go_wp2_with (first | (go_at_call 28; refine HI.mono ?_; rintro x W3 ⟨rfl, rfl⟩) | (go_at_call 29; refine HC.mono ?_; rintro x W3 ⟨rfl, rfl⟩))
          go_roundw
          case rel => exact ⟨k + 1, by omega, by go_num, by rw [Hs.out], rfl⟩
          case measure => simp [Go.RowKit.intOf]; omega
        · have Hs := Lib.hid (show cntN (fun j => decide (j ∈ l)) (k + 1) = C + 1 by rw [hs]; simp)
          clear hs
          go_wp2_with (first | (go_at_call 28; refine HI.mono ?_; rintro x W3 ⟨rfl, rfl⟩) | (go_at_call 29; refine HC.mono ?_; rintro x W3 ⟨rfl, rfl⟩))
          go_roundw
          case rel => exact ⟨k + 1, by omega, by go_num, by rw [Hs.out]; first | rfl | go_num, rfl⟩
          case measure => simp [Go.RowKit.intOf]; omega
      · obtain rfl : k = N := by omega
        rw [show isNd k ((k : Int) + 1) = false by rw [← Bool.not_eq_true, isNd_iff]; omega] at HI
        have HF := fewest0 k (by omega) wr
        generalize cntN (fun j => decide (j ∈ l)) k = C at HE hck
        generalize k / 2 + 1 = F at HE HF
        go_wp2_with (first | (go_at_call 28; refine HI.mono ?_; rintro x W3 ⟨rfl, rfl⟩) | (go_at_call 30; refine HF.mono ?_; rintro x W3 ⟨rfl, rfl⟩))
        go_ret
        refine ⟨?_, rfl⟩
        rw [HE.out]
        show Ending.returned _ = _
        simp
end Go.Proofs.Ytbfamijlaoopaaa

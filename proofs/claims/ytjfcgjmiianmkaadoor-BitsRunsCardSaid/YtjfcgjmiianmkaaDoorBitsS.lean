/-
  What the document's own Count, Run, Bytes and Read of layer 3 do: contracts, one a function.
-/
import Derived.Test.YtjfcgjmiianmkaaDoorBitsR
namespace Go.Proofs.YtjfcgjmiianmkaaDoor
open Go.RowKit

set_option maxHeartbeats 400000 in
theorem refCount_any (A : Option Addr) (k c : Nat) (l : List Bool) (w : World) (hr : RdB w A k l) (hk : k ≤ 4096) :
    Calls Tryd.prog 21 #[.slice A k c] w fun e w' => e = .returned (.int .i64 (countL l : Nat)) ∧ w = w' := by
  have hl := hr.len
  have hval : countL l = cnt (isOn l) k := by unfold countL; rw [hl]
  rw [hval]
  clear hl hval
  go_enter Tryd.func21, Tryd.ntmps21
  go_wp2
  go_loop [3, 4] (fun n i => ∃ j : Nat, j ≤ k ∧ i = .int .i64 j ∧ n = .int .i64 (cnt (isOn l) j : Nat)) (fun _ i => k - (intOf i).toNat)
  case atStart => exact ⟨0, Nat.zero_le _, rfl, rfl⟩
  case round =>
    obtain ⟨j, hj, rfl, rfl⟩ := hrel
    by_cases hlt : j < k
    · obtain ⟨b, off, rfl, _, hc⟩ := hr.cell hlt
      have hle := cnt_le (isOn l) j
      have hs : cnt (isOn l) (j + 1) = cnt (isOn l) j + (isOn l j).toNat := rfl
      obtain ⟨x, hx⟩ : ∃ x, x = isOn l j := ⟨_, rfl⟩
      rw [← hx] at hc hs
      have Hs := Lib.hid hs
      clear hx hs
      cases x
      · go_wp2
        refine ⟨⟨j + 1, by omega, by go_num, ?_⟩, by simp [intOf]; omega⟩
        rw [Hs.out]
        rfl
      · go_wp2
        refine ⟨⟨j + 1, by omega, by go_num, ?_⟩, by simp [intOf]; omega⟩
        rw [Hs.out]
        simp
    · obtain rfl : j = k := by omega
      go_wp2
      go_ret
      exact ⟨rfl, rfl⟩

set_option maxHeartbeats 1000000 in
theorem is_any (A : Option Addr) (k c : Nat) (l : List Bool) (i n : Nat) (on : Bool) (w : World) (hr : RdB w A k l) (hk : k ≤ 4096) (hn : n ≤ 9223372036854775807) (hi : i ≤ k) :
    Calls Tryd.prog 31 #[.slice A k c, .int .i64 (i : Int), .int .i64 (n : Int), .bool on] w fun e w' => e = .returned (.bool (runAt l i n on)) ∧ w = w' := by
  have hl := hr.len
  have P := places_any A k c l (i : Int) (n : Int) w hl hk
  by_cases h : i + n ≤ k
  · rw [show mayPut l (i : Int) (n : Int) = true from decide_eq_true (by omega)] at P
    have Hl := Lib.hid hl
    clear hl
    go_enter Tryd.func31, Tryd.ntmps31
    go_wp2_with (go_at_call 28; refine P.mono ?_; rintro e w1 ⟨rfl, rfl⟩)
    clear P
    go_loop [9] (fun v => ∃ j : Nat, j ≤ n ∧ v = .int .i64 ((i : Int) + (j : Int)) ∧ ∀ q, q < j → isOn l (i + q) = on) (fun v => i + n - (intOf v).toNat)
    case atStart => exact ⟨0, Nat.zero_le _, by simp, fun q hq => absurd hq (by omega)⟩
    case round =>
      obtain ⟨j, hj, rfl, hall⟩ := hrel
      by_cases hlt : j < n
      · obtain ⟨b, off, rfl, _, hc⟩ := hr.cell (j := i + j) (by omega)
        have t0 : (i : Int) + (j : Int) < (i : Int) + (n : Int) := by omega
        by_cases hx : isOn l (i + j) = on
        · have hall2 : ∀ q, q < j + 1 → isOn l (i + q) = on := fun q hq => by
            rcases Nat.lt_or_ge q j with h1 | h1
            · exact hall q h1
            · rw [show q = j by omega]; exact hx
          have Hall := Lib.hid hall2
          rw [hx] at hc
          have t1 : (on != on) = false := by cases on <;> rfl
          have t2 : ((i : Int) + (j : Int)).toNat = i + j := by omega
          clear hall hall2 hx
          go_wp2
          refine ⟨⟨j + 1, by omega, ?_, Hall.out⟩, by simp [intOf]; omega⟩
          rw [show (i : Int) + (j : Int) + 1 = (i : Int) + ((j + 1 : Nat) : Int) from by omega]
        · have hval : runAt l i n on = false := runAt_no fun hh => hx (hh.2 j hlt)
          have Hval := Lib.hid hval
          obtain ⟨x, hxe⟩ : ∃ x, x = isOn l (i + j) := ⟨_, rfl⟩
          rw [← hxe] at hc hx
          have t1 : (x != on) = true := by simpa using hx
          have t3 : (!x == on) = true := by cases x <;> cases on <;> simp at hx ⊢
          have t2 : ((i : Int) + (j : Int)).toNat = i + j := by omega
          clear hall hval hxe hx
          go_wp2
          go_ret
          exact ⟨congrArg (fun z => Ending.returned (.bool z)) Hval.out.symm, rfl⟩
      · obtain rfl : j = n := by omega
        have hval : runAt l i j on = true := runAt_iff.2 ⟨by rw [Hl.out]; exact h, hall⟩
        have Hval := Lib.hid hval
        clear hall hval
        go_wp2
        go_ret
        exact ⟨congrArg (fun z => Ending.returned (.bool z)) Hval.out.symm, rfl⟩
  · have hval : runAt l i n on = false := runAt_no fun hh => h (by rw [← hl]; exact hh.1)
    rw [hval]
    rw [show mayPut l (i : Int) (n : Int) = false from decide_eq_false (by omega)] at P
    clear hl h hval
    go_enter Tryd.func31, Tryd.ntmps31
    go_wp2_with (go_at_call 28; refine P.mono ?_; rintro e w1 ⟨rfl, rfl⟩)
    go_ret
    exact ⟨rfl, rfl⟩

def RefRunRel (l : List Bool) (a : Int) (n : Nat) (on : Bool) (v : Value) : Prop := ∃ j : Nat, j ≤ l.length ∧ v = .int .i64 (j : Int) ∧ ∀ q : Nat, q < j → a ≤ (q : Int) → runAt l q n on = false

set_option maxHeartbeats 1000000 in
theorem refRun_any (A : Option Addr) (k c : Nat) (l : List Bool) (a n : Int) (on : Bool) (w : World) (hr : RdB w A k l) (hk : k ≤ 4096) (hn : n ≤ 9223372036854775807) :
    Calls Tryd.prog 17 #[.slice A k c, .int .i64 a, .int .i64 n, .bool on] w fun e w' => e = .returned (.int .i64 (runL l a n on)) ∧ w = w' := by
  have hl := hr.len
  by_cases h1 : n < 1
  · have e : runL l a n on = -1 := by unfold runL; rw [if_pos h1]
    rw [e]
    have t1 : decide (1 ≤ n) = false := by simp; omega
    clear e hl
    by_cases h0 : 0 < k
    · go_enter Tryd.func17, Tryd.ntmps17
      go_wp2
      go_loop [9] (fun v => v = .int .i64 0) (fun _ => 0)
      case atStart => rfl
      case round =>
        obtain rfl := hrel
        go_wp2
        go_ret
        exact ⟨rfl, rfl⟩
    · obtain rfl : k = 0 := by omega
      go_enter Tryd.func17, Tryd.ntmps17
      go_wp2
      go_loop [9] (fun v => v = .int .i64 0) (fun _ => 0)
      case atStart => rfl
      case round =>
        obtain rfl := hrel
        go_wp2
        go_ret
        exact ⟨rfl, rfl⟩
  · obtain ⟨m, rfl⟩ : ∃ m : Nat, n = (m : Int) := ⟨n.toNat, by omega⟩
    have Hl := Lib.hid hl
    clear hl
    go_enter Tryd.func17, Tryd.ntmps17
    go_wp2
    go_loop [9] (RefRunRel l a m on) (fun v => k - (intOf v).toNat)
    case atStart => exact ⟨0, Nat.zero_le _, rfl, fun q hq => absurd hq (by omega)⟩
    case round =>
      obtain ⟨j, hj, rfl, hno⟩ := hrel
      rw [Hl.out] at hj
      by_cases hlt : j < k
      · have I := is_any A k c l j m on w hr hk (by omega) hj
        by_cases ha : a ≤ (j : Int)
        · by_cases hrun : runAt l j m on = true
          · have hval : runL l a (m : Int) on = (j : Int) := runL_some (by omega) (by rw [Hl.out]; exact hlt) ha (by rw [Int.toNat_natCast]; exact hrun) fun q hq hqa => by rw [Int.toNat_natCast]; exact hno q hq hqa
            rw [hrun] at I
            have Hval := Lib.hid hval
            clear hno hval hrun
            go_wp2_with (go_at_call 31; refine I.mono ?_; rintro e w1 ⟨rfl, rfl⟩)
            go_ret
            exact ⟨congrArg (fun z => Ending.returned (.int .i64 z)) Hval.out.symm, rfl⟩
          · have hrf : runAt l j m on = false := by simpa using hrun
            rw [hrf] at I
            have hno2 : ∀ q : Nat, q < j + 1 → a ≤ (q : Int) → runAt l q m on = false := fun q hq hqa => by
              rcases Nat.lt_or_ge q j with h3 | h3
              · exact hno q h3 hqa
              · rw [show q = j by omega]; exact hrf
            have Hno := Lib.hid hno2
            clear hno hno2 hrun hrf
            go_wp2_with (go_at_call 31; refine I.mono ?_; rintro e w1 ⟨rfl, rfl⟩)
            refine ⟨⟨j + 1, by rw [Hl.out]; omega, by go_num, Hno.out⟩, by simp [intOf]; omega⟩
        · have t1 : decide (a ≤ (j : Int)) = false := by simp; omega
          have hno2 : ∀ q : Nat, q < j + 1 → a ≤ (q : Int) → runAt l q m on = false := fun q hq hqa => hno q (by omega) hqa
          have Hno := Lib.hid hno2
          clear hno hno2 I
          go_wp2
          refine ⟨⟨j + 1, by rw [Hl.out]; omega, by go_num, Hno.out⟩, by simp [intOf]; omega⟩
      · obtain rfl : j = k := by omega
        have hval : runL l a (m : Int) on = -1 := runL_none fun q hq hqa => by rw [Int.toNat_natCast]; exact hno q (by rw [← Hl.out]; exact hq) hqa
        have Hval := Lib.hid hval
        clear hno hval
        go_wp2
        go_ret
        exact ⟨congrArg (fun z => Ending.returned (.int .i64 z)) Hval.out.symm, rfl⟩
end Go.Proofs.YtjfcgjmiianmkaaDoor

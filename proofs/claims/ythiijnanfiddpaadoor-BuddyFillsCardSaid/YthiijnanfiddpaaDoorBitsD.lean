/-
  What next and Run do: contracts, one a function.
-/
import Derived.Test.YthiijnanfiddpaaDoorBitsC
namespace Go.Proofs.YthiijnanfiddpaaDoor
open Go.RowKit

theorem not64 (x : Nat) (hx : x < 18446744073709551616) : bits .xor .u64 18446744073709551615 (x : Int) = ((seek x false : Nat) : Int) := by
  have e : (18446744073709551615 : Nat) ^^^ x = seek x false := by
    apply word_ext (Nat.xor_lt_two_pow (n := 64) (by omega) hx) (seek_lt hx false)
    intro k hk
    rw [Nat.testBit_xor, seek_bit hx false hk, show (18446744073709551615 : Nat) = 2 ^ 64 - 1 from rfl, Nat.testBit_two_pow_sub_one, decide_eq_true hk]
    cases x.testBit k <;> rfl
  rw [show (18446744073709551615 : Int) = ((18446744073709551615 : Nat) : Int) from rfl, bits_xor_u64_nat _ _ (by omega) hx, e]

/-- The search in next, so far. -/
def NextRel (l : List Bool) (a : Nat) (on : Bool) (v : Value) : Prop := ∃ p : Nat, v = .int .i64 (p : Int) ∧ a ≤ p ∧ ∀ j, a ≤ j → j < p → isOn l j ≠ on

set_option maxHeartbeats 1000000 in
theorem next_any (g h : Nat) (l : List Bool) (a : Nat) (on : Bool) (w : World) (m : MapAt w g h l) (hT : Tab w) :
    Calls Tryd.prog 52 #[.pointer (some ⟨g, 0, none⟩), .int .i64 (a : Int), .bool on] w fun e w' => e = .returned (.int .i64 (nextL l a on : Nat)) ∧ w = w' := by
  obtain ⟨ws, h1, h2, hw, hl⟩ := m
  have c0 := h1.cell 0
  have c1 := h1.cell 1
  obtain ⟨n, hn⟩ : ∃ n, n = l.length := ⟨_, rfl⟩
  obtain ⟨k, hk⟩ : ∃ k, k = ws.length := ⟨_, rfl⟩
  rw [← hn] at c0 hl
  rw [← hk] at c1
  have Hn := Lib.hid hn
  have Hk := Lib.hid hk
  clear h1 hn hk
  have hsg : IntKind.u64.signed = false := rfl
  have hmx : IntKind.u64.max = 18446744073709551615 := rfl
  go_enter Tryd.func52, Tryd.ntmps52
  go_wp2
  go_loop [1] (NextRel l a on) (fun i => n - (intOf i).toNat)
  case atStart => exact ⟨a, rfl, Nat.le_refl _, fun j h1 h2 => absurd h1 (by omega)⟩
  case round =>
    obtain ⟨p, rfl, hap, hno⟩ := hrel
    by_cases hlt : p < n
    · have hpl : p < l.length := by rw [← Hn.out]; exact hlt
      obtain ⟨x, hx, hxl, hb⟩ := hw.get hpl
      have cx := h2.cell (p / 64)
      rw [wvs_get hx] at cx
      have hq : p / 64 < ws.length := (List.getElem?_eq_some_iff.1 hx).1
      rw [← Hk.out] at hq
      obtain ⟨y, hy⟩ : ∃ y, seek x on / 2 ^ (p % 64) = y := ⟨_, rfl⟩
      have e4 : ((seek x on : Nat) : Int) / (2 : Int) ^ (p % 64) = (y : Int) := by rw [← hy]; simp
      have hfound := fun h0 : y ≠ 0 => next_found hpl hxl hb hy h0
      have hnone := fun h0 : y = 0 => next_none hxl hb (hy.trans h0)
      have e5 := not64 x hxl
      have e6 : seek x true = x := rfl
      obtain ⟨q, hqe⟩ : ∃ q, q = p / 64 := ⟨_, rfl⟩
      obtain ⟨r, hre⟩ : ∃ r, r = p % 64 := ⟨_, rfl⟩
      have e1 : (p : Int) / 64 = (q : Int) := by omega
      have e2 : (p : Int) % 64 = (r : Int) := by omega
      have e3 : min r 64 = r := by omega
      rw [← hqe] at cx hq
      rw [← hre] at e4 hnone
      have hr64 : r < 64 := by omega
      clear hx hb hy hqe hre hpl
      by_cases h0 : y = 0
      · have t1 : ((y : Int) != 0) = false := by simp [h0]
        have t2 : ((y : Int) == 0) = true := by simp [h0]
        have hno2 := Lib.hid (hnone h0)
        have Hno := Lib.hid hno
        clear hfound hnone hno h0
        have step : NextRel l a on (.int .i64 ((p + (64 - r) : Nat) : Int)) := ⟨_, rfl, by omega, fun j h1 h2 => by
          rcases Nat.lt_or_ge j p with h3 | h3
          · exact Hno.out j h1 h3
          · exact hno2.out j h3 h2⟩
        have Step := Lib.hid step
        have E7 : Hid ((p : Int) + (64 - (r : Int)) = ((p + (64 - r) : Nat) : Int)) := Lib.hid (by omega)
        clear step Hno hno2
        cases on
        · go_wp2
          refine ⟨?_, by simp [intOf]; omega⟩
          rw [E7.out]
          exact Step.out
        · rw [e6] at e4
          go_wp2
          refine ⟨?_, by simp [intOf]; omega⟩
          rw [E7.out]
          exact Step.out
      · obtain ⟨hyl, hnext⟩ := hfound h0
        have t1 : ((y : Int) != 0) = true := by simp [h0]
        have t2 : ((y : Int) == 0) = false := by simp [h0]
        have hval : nextL l a on = p + Lib.ctz 64 y := IsNext.val ⟨hnext.1, fun j h1 h2 => by
          rcases Nat.lt_or_ge j p with h3 | h3
          · exact hno j h1 h3
          · exact hnext.2.1 j h3 h2, fun h1 => ⟨(hnext.2.2 h1).1, by omega⟩⟩
        have hle := hnext.1
        rw [← Hn.out] at hle
        have Hval := Lib.hid hval
        clear hfound hnone hno hval hnext
        cases on
        · go_wp2_with (go_at_call 67; refine (tz_any y hyl h0 w hT).mono ?_; rintro e w1 ⟨rfl, rfl⟩)
          go_ret
          exact ⟨congrArg (fun z : Int => Ending.returned (.int .i64 z)) (by rw [Hval.out]; omega), rfl⟩
        · rw [e6] at e4
          go_wp2_with (go_at_call 67; refine (tz_any y hyl h0 w hT).mono ?_; rintro e w1 ⟨rfl, rfl⟩)
          go_ret
          exact ⟨congrArg (fun z : Int => Ending.returned (.int .i64 z)) (by rw [Hval.out]; omega), rfl⟩
    · have hval : nextL l a on = n := IsNext.val ⟨by rw [Hn.out]; exact Nat.le_refl _, fun j h1 h2 => hno j h1 (by omega), fun h1 => by rw [Hn.out] at h1; exact absurd h1 (Nat.lt_irrefl _)⟩
      have Hval := Lib.hid hval
      clear hno hval
      go_wp2
      go_ret
      exact ⟨congrArg (fun z : Nat => Ending.returned (.int .i64 (z : Int))) Hval.out.symm, rfl⟩

/-- The search in Run, so far. -/
def RunRel (l : List Bool) (a n : Nat) (on : Bool) (v : Value) : Prop := ∃ p : Nat, v = .int .i64 (p : Int) ∧ Seen l a n on p

set_option maxHeartbeats 1000000 in
theorem run_any (g h : Nat) (l : List Bool) (a n : Int) (on : Bool) (w : World) (m : MapAt w g h l) (hT : Tab w) :
    Calls Tryd.prog 30 #[.pointer (some ⟨g, 0, none⟩), .int .i64 a, .int .i64 n, .bool on] w fun e w' => e = .returned (.int .i64 (runL l a n on)) ∧ w = w' := by
  by_cases hn : n < 1
  · have e : runL l a n on = -1 := by unfold runL; rw [if_pos hn]
    rw [e]
    go_enter Tryd.func30, Tryd.ntmps30
    go_wp2
    go_ret
    exact ⟨rfl, rfl⟩
  · obtain ⟨k, hk⟩ : ∃ k : Nat, n = (k : Int) := ⟨n.toNat, by omega⟩
    subst hk
    have hk1 : 1 ≤ k := by omega
    obtain ⟨b, hb⟩ : ∃ b : Nat, (if a < 0 then (0 : Int) else a) = (b : Int) := ⟨a.toNat, by split <;> omega⟩
    have hab : ∀ i : Nat, a ≤ (i : Int) ↔ b ≤ i := fun i => by split at hb <;> omega
    obtain ⟨ws, h1, h2, hw, hl⟩ := id m
    have c0 := h1.cell 0
    obtain ⟨z, hz⟩ : ∃ z, z = l.length := ⟨_, rfl⟩
    rw [← hz] at c0 hl
    have Hz := Lib.hid hz
    clear h1 h2 hz hw
    go_enter Tryd.func30, Tryd.ntmps30
    go_wp2_with fail
    refine (next_any g h l b on w m hT).mono ?_
    rintro e w1 ⟨rfl, rfl⟩
    go_wp2_with fail
    clear hb
    go_loop [9] (RunRel l b k on) (fun i => z - (intOf i).toNat)
    case atStart => exact ⟨_, rfl, seen_first hk1⟩
    case round =>
      obtain ⟨p, rfl, seen⟩ := hrel
      have hple := seen.le
      rw [← Hz.out] at hple
      by_cases hlt : p < z
      · have hpl : p < l.length := by rw [← Hz.out]; exact hlt
        obtain ⟨s1, s2, s3⟩ := seen.ends hpl
        obtain ⟨q, hq⟩ : ∃ q, q = nextL l p (!on) := ⟨_, rfl⟩
        have N1 := next_any g h l p (!on) w m hT
        have hfound := seen.found hpl
        have hstep := seen.step hpl hk1
        rw [← hq] at s1 s2 N1 hfound hstep
        have hab0 := seen.here hpl
        rw [← Hz.out] at s2
        by_cases hr : k ≤ q - p
        · have hval : runL l a (k : Int) on = (p : Int) := runL_some (by omega) hpl ((hab p).2 hab0.2) (by rw [Int.toNat_natCast]; exact hfound hr) fun j hj ha => by rw [Int.toNat_natCast]; exact seen.no j ((hab j).1 ha) hj
          have Hval := Lib.hid hval
          have t1 : (k : Int) ≤ (q : Int) - (p : Int) := by omega
          clear hval hfound hstep hq hab0 seen s3 hpl hab
          go_wp2_with (go_at_call 52; refine N1.mono ?_; rintro e w1 ⟨rfl, rfl⟩)
          go_ret
          exact ⟨congrArg (fun z : Int => Ending.returned (.int .i64 z)) Hval.out.symm, rfl⟩
        · have t1 : ¬ (k : Int) ≤ (q : Int) - (p : Int) := by omega
          obtain ⟨seen2, hlt2⟩ := hstep (by omega)
          have N2 := next_any g h l q on w m hT
          obtain ⟨q2, hq2⟩ : ∃ q2, q2 = nextL l q on := ⟨_, rfl⟩
          rw [← hq2] at seen2 hlt2 N2
          have hle2 := seen2.le
          rw [← Hz.out] at hle2
          have Seen2 := Lib.hid seen2
          clear seen2 hfound hstep hq hq2 hab0 seen s3 hpl hab
          go_wp2_with (first | (go_at_call 52; refine N1.mono ?_; rintro e w1 ⟨rfl, rfl⟩; clear N1) | (go_at_call 52; refine N2.mono ?_; rintro e w1 ⟨rfl, rfl⟩))
          refine ⟨⟨q2, rfl, Seen2.out⟩, by simp [intOf]; omega⟩
      · have hval : runL l a (k : Int) on = -1 := runL_none fun i hi ha => by rw [Int.toNat_natCast]; exact seen.no i ((hab i).1 ha) (by rw [← Hz.out] at hi; omega)
        have Hval := Lib.hid hval
        clear hval seen hab
        go_wp2
        go_ret
        exact ⟨congrArg (fun z : Int => Ending.returned (.int .i64 z)) Hval.out.symm, rfl⟩
set_option maxHeartbeats 400000 in
theorem run_nil (a n : Int) (on : Bool) (w : World) : Calls Tryd.prog 30 #[.pointer none, .int .i64 a, .int .i64 n, .bool on] w fun e w' => e = .returned (.int .i64 (-1)) ∧ w = w' := by
  go_enter Tryd.func30, Tryd.ntmps30
  go_wp2
  go_ret
  exact ⟨rfl, rfl⟩
end Go.Proofs.YthiijnanfiddpaaDoor

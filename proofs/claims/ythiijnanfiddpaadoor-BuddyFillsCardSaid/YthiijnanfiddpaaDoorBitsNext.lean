/-
  Plain mathematics: the next place that is on or off, and the first run of them; no program, no condition.
-/
import Derived.Test.YthiijnanfiddpaaDoorBitsWords
namespace Go.Proofs.YthiijnanfiddpaaDoor
open Go.RowKit

/-- The next place, not below a, whose bit is so; the length if there is none. -/
def IsNext (l : List Bool) (a : Nat) (on : Bool) (r : Nat) : Prop := r ≤ l.length ∧ (∀ i, a ≤ i → i < r → isOn l i ≠ on) ∧ (r < l.length → isOn l r = on ∧ a ≤ r)
def nextL (l : List Bool) (a : Nat) (on : Bool) : Nat := ((List.range l.length).find? fun i => decide (a ≤ i) && (isOn l i == on)).getD l.length
theorem nextL_is (l : List Bool) (a : Nat) (on : Bool) : IsNext l a on (nextL l a on) := by
  unfold nextL
  cases h : (List.range l.length).find? fun i => decide (a ≤ i) && (isOn l i == on) with
  | none =>
    rw [List.find?_range_eq_none] at h
    refine ⟨Nat.le_refl _, fun i h1 h2 he => ?_, fun h1 => absurd h1 (Nat.lt_irrefl _)⟩
    have := h i h2
    simp [h1, he] at this
  | some r =>
    rw [List.find?_range_eq_some] at h
    obtain ⟨h1, h2, h3⟩ := h
    simp at h1 h2
    refine ⟨Nat.le_of_lt h2, fun i h4 h5 he => ?_, fun _ => ⟨h1.2, h1.1⟩⟩
    have := h3 i h5
    simp [h4, he] at this
theorem IsNext.eq {l : List Bool} {a : Nat} {on : Bool} {r s : Nat} (h : IsNext l a on r) (k : IsNext l a on s) : r = s := by
  obtain ⟨h1, h2, h3⟩ := h
  obtain ⟨k1, k2, k3⟩ := k
  rcases Nat.lt_trichotomy r s with h | h | h
  · obtain ⟨e, ha⟩ := h3 (by omega)
    exact absurd e (k2 r ha h)
  · exact h
  · obtain ⟨e, ha⟩ := k3 (by omega)
    exact absurd e (h2 s ha h)
theorem IsNext.val {l : List Bool} {a : Nat} {on : Bool} {r : Nat} (h : IsNext l a on r) : nextL l a on = r := (nextL_is l a on).eq h

theorem ctz_bit {y : Nat} (h0 : y ≠ 0) (hy : y < 18446744073709551616) : Lib.ctz 64 y < 64 ∧ y.testBit (Lib.ctz 64 y) = true ∧ ∀ k, k < Lib.ctz 64 y → y.testBit k = false := by
  obtain ⟨m, hm, hk⟩ := Lib.ctzFrom_spec 64 y (by omega) hy
  have e : Lib.ctz 64 y = Lib.ctzFrom 64 y := by simp [Lib.ctz, h0]
  rw [e]
  generalize Lib.ctzFrom 64 y = c at hm hk
  subst hm
  refine ⟨hk, ?_, fun k hlt => ?_⟩
  · rw [Nat.mul_comm, Nat.testBit_mul_two_pow]
    simp [Nat.testBit_zero]
  · rw [Nat.mul_comm, Nat.testBit_mul_two_pow]
    simp
    omega

/-- The word that is searched, and what is left of it from a bit on. -/
def seek (x : Nat) (on : Bool) : Nat := if on then x else 18446744073709551615 - x
theorem seek_lt {x : Nat} (hx : x < 18446744073709551616) (on : Bool) : seek x on < 18446744073709551616 := by unfold seek; split <;> omega
theorem seek_bit {x : Nat} (hx : x < 18446744073709551616) (on : Bool) {k : Nat} (hk : k < 64) : (seek x on).testBit k = (x.testBit k == on) := by
  unfold seek
  cases on
  · rw [if_neg (by simp), show 18446744073709551615 - x = 2 ^ 64 - (x + 1) by omega, Nat.testBit_two_pow_sub_succ (show x < 2 ^ 64 by omega), decide_eq_true hk]
    cases x.testBit k <;> rfl
  · rw [if_pos rfl]
    cases x.testBit k <;> rfl

/-- What the word says of the places from i on: the next one, or that there is none in it. -/
theorem next_found {l : List Bool} {i x : Nat} {on : Bool} (hi : i < l.length) (hx : x < 18446744073709551616) (hb : ∀ k, k < 64 → x.testBit k = isOn l (64 * (i / 64) + k)) {y : Nat} (hy : seek x on / 2 ^ (i % 64) = y) (h0 : y ≠ 0) :
    y < 18446744073709551616 ∧ IsNext l i on (i + Lib.ctz 64 y) := by
  have hlt : y < 18446744073709551616 := by rw [← hy]; exact Nat.lt_of_le_of_lt (Nat.div_le_self _ _) (seek_lt hx on)
  obtain ⟨hc, h1, h2⟩ := ctz_bit h0 hlt
  have e : ∀ k, y.testBit k = (seek x on).testBit (k + i % 64) := fun k => by rw [← hy, Nat.testBit_div_two_pow]
  have big : ∀ k, 64 ≤ k → (seek x on).testBit k = false := fun k hk =>
    Nat.testBit_lt_two_pow (Nat.lt_of_lt_of_le (show seek x on < 2 ^ 64 from seek_lt hx on) (Nat.pow_le_pow_right (by omega) hk))
  have hc2 : Lib.ctz 64 y + i % 64 < 64 := by
    rcases Nat.lt_or_ge (Lib.ctz 64 y + i % 64) 64 with h | h
    · exact h
    · rw [e, big _ h] at h1; cases h1
  have hon : isOn l (i + Lib.ctz 64 y) = on := by
    rw [e, seek_bit hx on hc2, hb _ hc2, show 64 * (i / 64) + (Lib.ctz 64 y + i % 64) = i + Lib.ctz 64 y by omega] at h1
    simpa using h1
  have hoff : ∀ j, i ≤ j → j < i + Lib.ctz 64 y → isOn l j ≠ on := fun j hj hjl he => by
    have := h2 (j - i) (by omega)
    rw [e, seek_bit hx on (by omega), hb _ (by omega), show 64 * (i / 64) + (j - i + i % 64) = j by omega, he] at this
    simp at this
  refine ⟨hlt, ?_, hoff, fun _ => ⟨hon, by omega⟩⟩
  rcases Nat.lt_or_ge l.length (i + Lib.ctz 64 y) with h | h
  · exact absurd ((isOn_behind (Nat.le_refl _)).trans ((isOn_behind (Nat.le_of_lt h)).symm.trans hon)) (hoff l.length (by omega) h)
  · exact h
theorem next_none {l : List Bool} {i x : Nat} {on : Bool} (hx : x < 18446744073709551616) (hb : ∀ k, k < 64 → x.testBit k = isOn l (64 * (i / 64) + k)) (h0 : seek x on / 2 ^ (i % 64) = 0) :
    ∀ j, i ≤ j → j < i + (64 - i % 64) → isOn l j ≠ on := fun j hj hjl he => by
  have : (seek x on / 2 ^ (i % 64)).testBit (j - i) = false := by rw [h0, Nat.zero_testBit]
  rw [Nat.testBit_div_two_pow, seek_bit hx on (by omega), hb _ (by omega), show 64 * (i / 64) + (j - i + i % 64) = j by omega, he] at this
  simp at this

/-- A run of n bits that are so begins here. -/
def runAt (l : List Bool) (i n : Nat) (on : Bool) : Bool := decide (i + n ≤ l.length) && (List.range n).all fun k => isOn l (i + k) == on
theorem runAt_iff {l : List Bool} {i n : Nat} {on : Bool} : runAt l i n on = true ↔ i + n ≤ l.length ∧ ∀ k, k < n → isOn l (i + k) = on := by
  unfold runAt
  simp
theorem runAt_no {l : List Bool} {i n : Nat} {on : Bool} (h : ¬ (i + n ≤ l.length ∧ ∀ k, k < n → isOn l (i + k) = on)) : runAt l i n on = false := by
  cases e : runAt l i n on with
  | false => rfl
  | true => exact absurd (runAt_iff.1 e) h
/-- The first run, not below a; -1 if there is none. -/
def runL (l : List Bool) (a n : Int) (on : Bool) : Int :=
  if n < 1 then -1 else match (List.range l.length).find? (fun i : Nat => decide (a ≤ (i : Int)) && runAt l i n.toNat on) with
    | some i => (i : Int)
    | none => -1
theorem runL_none {l : List Bool} {a n : Int} {on : Bool} (h : ∀ i : Nat, i < l.length → a ≤ (i : Int) → runAt l i n.toNat on = false) : runL l a n on = -1 := by
  unfold runL
  split
  · rfl
  · rw [List.find?_range_eq_none.2 fun i hi => ?_]
    rcases Int.lt_or_le (i : Int) a with h1 | h1
    · simp; omega
    · simp [h i hi h1]
theorem runL_some {l : List Bool} {a n : Int} {on : Bool} {i : Nat} (hn : ¬ n < 1) (hi : i < l.length) (ha : a ≤ (i : Int)) (hr : runAt l i n.toNat on = true) (h : ∀ j : Nat, j < i → a ≤ (j : Int) → runAt l j n.toNat on = false) : runL l a n on = (i : Int) := by
  unfold runL
  rw [if_neg hn, (List.find?_range_eq_some (i := i)).2 ⟨by simp [ha, hr], by simpa using hi, fun j hj => ?_⟩]
  rcases Int.lt_or_le (j : Int) a with h1 | h1
  · simp; omega
  · simp [h j hj h1]

/-- The search so far: no run begins from a on below the place p, which is the length, or whose bit is so. -/
structure Seen (l : List Bool) (a : Nat) (n : Nat) (on : Bool) (p : Nat) : Prop where
  le : p ≤ l.length
  no : ∀ j, a ≤ j → j < p → runAt l j n on = false
  here : p < l.length → isOn l p = on ∧ a ≤ p
theorem seen_first {l : List Bool} {a n : Nat} {on : Bool} (hn : 1 ≤ n) : Seen l a n on (nextL l a on) := by
  obtain ⟨h1, h2, h3⟩ := nextL_is l a on
  exact ⟨h1, fun j ha hj => runAt_no fun ⟨_, h⟩ => h2 j ha hj (h 0 (by omega)), h3⟩
theorem Seen.ends {l : List Bool} {a n : Nat} {on : Bool} {p : Nat} (h : Seen l a n on p) (hp : p < l.length) : p < nextL l p (!on) ∧ nextL l p (!on) ≤ l.length ∧ ∀ j, p ≤ j → j < nextL l p (!on) → isOn l j = on := by
  obtain ⟨h1, h2, h3⟩ := nextL_is l p (!on)
  refine ⟨?_, h1, fun j hj hk => ?_⟩
  · rcases Nat.lt_or_ge (nextL l p (!on)) l.length with h4 | h4
    · obtain ⟨h5, h6⟩ := h3 h4
      rcases Nat.lt_or_ge p (nextL l p (!on)) with h7 | h7
      · exact h7
      · have e : nextL l p (!on) = p := by omega
        rw [e, (h.here hp).1] at h5
        cases on <;> simp at h5
    · omega
  · have := h2 j hj hk
    cases on <;> simpa using this
theorem Seen.found {l : List Bool} {a n : Nat} {on : Bool} {p : Nat} (h : Seen l a n on p) (hp : p < l.length) (hn : n ≤ nextL l p (!on) - p) : runAt l p n on = true := by
  obtain ⟨h1, h2, h3⟩ := h.ends hp
  exact runAt_iff.2 ⟨by omega, fun k hk => h3 _ (by omega) (by omega)⟩
theorem Seen.step {l : List Bool} {a n : Nat} {on : Bool} {p : Nat} (h : Seen l a n on p) (hp : p < l.length) (hn1 : 1 ≤ n) (hn : nextL l p (!on) - p < n) : Seen l a n on (nextL l (nextL l p (!on)) on) ∧ p < nextL l (nextL l p (!on)) on := by
  obtain ⟨h1, h2, h3⟩ := h.ends hp
  obtain ⟨k1, k2, k3⟩ := nextL_is l p (!on)
  generalize nextL l p (!on) = e at *
  obtain ⟨m1, m2, m3⟩ := nextL_is l e on
  have he : e ≤ nextL l e on := by
    rcases Nat.lt_or_ge (nextL l e on) l.length with h4 | h4
    · exact (m3 h4).2
    · omega
  refine ⟨⟨m1, fun j ha hj => ?_, fun h4 => ⟨(m3 h4).1, by have := (h.here hp).2; omega⟩⟩, by omega⟩
  rcases Nat.lt_or_ge j p with h5 | h5
  · exact h.no j ha h5
  · rcases Nat.lt_or_ge j e with h6 | h6
    · refine runAt_no fun ⟨h7, h8⟩ => ?_
      have h9 := h8 (e - j) (by omega)
      rw [show j + (e - j) = e by omega] at h9
      have h10 := (k3 (by omega)).1
      rw [h9] at h10
      cases on <;> simp at h10
    · exact runAt_no fun ⟨_, h7⟩ => m2 j h6 hj (h7 0 (by omega))
end Go.Proofs.YthiijnanfiddpaaDoor

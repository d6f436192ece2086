/-
  Plain mathematics: a list of truths as words of 64 bits: what a put, a search and a count of words are of the list; no program, no condition.
-/
import Derived.Test.YthiijnanfiddpaaDoorBitsMath
namespace Go.Proofs.YthiijnanfiddpaaDoor
open Go.RowKit

/-- The words ws are the list l: the lowest place at the lowest value, all off behind the last one. -/
structure Words (l : List Bool) (ws : List Nat) : Prop where
  len : ws.length = (l.length + 63) / 64
  lt : ∀ (j x : Nat), ws[j]? = some x → x < 18446744073709551616
  bit : ∀ (j x : Nat), ws[j]? = some x → ∀ k, k < 64 → x.testBit k = isOn l (64 * j + k)

theorem word_ext {x y : Nat} (hx : x < 18446744073709551616) (hy : y < 18446744073709551616) (h : ∀ k, k < 64 → x.testBit k = y.testBit k) : x = y := by
  apply Nat.eq_of_testBit_eq
  intro i
  rcases Nat.lt_or_ge i 64 with hi | hi
  · exact h i hi
  · have e : ∀ z : Nat, z < 18446744073709551616 → z.testBit i = false := fun z hz =>
      Nat.testBit_lt_two_pow (Nat.lt_of_lt_of_le (show z < 2 ^ 64 by omega) (Nat.pow_le_pow_right (by omega) hi))
    rw [e x hx, e y hy]
theorem Words.get {l : List Bool} {ws : List Nat} (h : Words l ws) {i : Nat} (hi : i < l.length) : ∃ x, ws[i / 64]? = some x ∧ x < 18446744073709551616 ∧ ∀ k, k < 64 → x.testBit k = isOn l (64 * (i / 64) + k) := by
  have hl := h.len
  have hj : i / 64 < ws.length := by omega
  have hx := List.getElem?_eq_getElem hj
  exact ⟨_, hx, h.lt _ _ hx, h.bit _ _ hx⟩
theorem words_zero (n : Nat) : Words (List.replicate n false) (List.replicate ((n + 63) / 64) 0) := by
  refine ⟨by simp, fun j x hx => ?_, fun j x hx k _ => ?_⟩
  · have := List.eq_of_mem_replicate (List.mem_of_getElem? hx)
    omega
  · have := List.eq_of_mem_replicate (List.mem_of_getElem? hx)
    subst this
    unfold isOn
    rw [List.getD_eq_getElem?_getD, List.getElem?_replicate, Nat.zero_testBit]
    split <;> rfl

/-- n bits from a place on are put. -/
def putL (l : List Bool) (a n : Nat) (on : Bool) : List Bool := (List.range l.length).map fun i => if a ≤ i ∧ i < a + n then on else isOn l i
theorem putL_length (l : List Bool) (a n : Nat) (on : Bool) : (putL l a n on).length = l.length := by simp [putL]
theorem putL_isOn (l : List Bool) (a n : Nat) (on : Bool) {i : Nat} (hi : i < l.length) : isOn (putL l a n on) i = if a ≤ i ∧ i < a + n then on else isOn l i := by
  apply isOn_get
  simp [putL, hi]
theorem putL_none (l : List Bool) (a : Nat) (on : Bool) : putL l a 0 on = l :=
  isOn_ext (putL_length ..) fun i hi => by
    rw [putL_length] at hi
    rw [putL_isOn _ _ _ _ hi, if_neg (by omega)]

/-- The bits of a word that are on in m are turned. -/
def turned (x m : Nat) (on : Bool) : Nat := if on then x ||| m else x &&& (18446744073709551615 - m)
theorem turned_lt {x m : Nat} (hx : x < 18446744073709551616) (hm : m < 18446744073709551616) (on : Bool) : turned x m on < 18446744073709551616 := by
  unfold turned
  split
  · exact Nat.or_lt_two_pow (n := 64) hx hm
  · exact Nat.and_lt_two_pow (n := 64) x (by omega)
theorem turned_bit {x m : Nat} (hm : m < 18446744073709551616) (on : Bool) {k : Nat} (hk : k < 64) : (turned x m on).testBit k = if m.testBit k then on else x.testBit k := by
  unfold turned
  cases on
  · rw [if_neg (by simp), Nat.testBit_and, show 18446744073709551615 - m = 2 ^ 64 - (m + 1) by omega, Nat.testBit_two_pow_sub_succ (show m < 2 ^ 64 by omega)]
    cases m.testBit k <;> simp [hk]
  · rw [if_pos rfl, Nat.testBit_or]
    cases m.testBit k <;> simp
/-- The masks: from a bit on, up to a bit. -/
def fromM (r : Nat) : Nat := 18446744073709551615 * 2 ^ r % 18446744073709551616
def uptoM (s : Nat) : Nat := 18446744073709551615 / 2 ^ (63 - s)
theorem fromM_lt (r : Nat) : fromM r < 18446744073709551616 := Nat.mod_lt _ (by omega)
theorem uptoM_lt (s : Nat) : uptoM s < 18446744073709551616 := Nat.lt_of_le_of_lt (Nat.div_le_self _ _) (by omega)
theorem fromM_bit (r k : Nat) (hk : k < 64) : (fromM r).testBit k = decide (r ≤ k) := by
  unfold fromM
  rw [show (18446744073709551616 : Nat) = 2 ^ 64 from rfl, Nat.testBit_mod_two_pow, Nat.testBit_mul_two_pow, show (18446744073709551615 : Nat) = 2 ^ 64 - 1 from rfl, Nat.testBit_two_pow_sub_one]
  simp [hk]
  omega
theorem uptoM_bit (s k : Nat) (hs : s < 64) : (uptoM s).testBit k = decide (k ≤ s) := by
  unfold uptoM
  rw [Nat.testBit_div_two_pow, show (18446744073709551615 : Nat) = 2 ^ 64 - 1 from rfl, Nat.testBit_two_pow_sub_one]
  congr 1
  simp
  omega

/-- What comes of a word of the list, if the bits of the mask are those of its places that are put. -/
theorem Words.step {l : List Bool} {ws : List Nat} (h : Words l ws) (a n : Nat) (on : Bool) (ws' : List Nat) (hl : ws'.length = ws.length)
    (hw : ∀ (j x : Nat), ws[j]? = some x → ∃ m, m < 18446744073709551616 ∧ ws'[j]? = some (turned x m on) ∧ ∀ k, k < 64 → m.testBit k = decide (a ≤ 64 * j + k ∧ 64 * j + k < a + n)) (han : a + n ≤ l.length) : Words (putL l a n on) ws' := by
  have e : ∀ (j y : Nat), ws'[j]? = some y → ∃ x m, ws[j]? = some x ∧ m < 18446744073709551616 ∧ y = turned x m on ∧ ∀ k, k < 64 → m.testBit k = decide (a ≤ 64 * j + k ∧ 64 * j + k < a + n) := fun j y hy => by
    have hj : j < ws.length := by rw [← hl]; exact (List.getElem?_eq_some_iff.1 hy).1
    have hx := List.getElem?_eq_getElem hj
    obtain ⟨m, hm, h1, h2⟩ := hw j _ hx
    rw [h1] at hy
    injection hy with hy
    exact ⟨_, m, hx, hm, hy.symm, h2⟩
  refine ⟨by rw [hl, h.len, putL_length], fun j y hy => ?_, fun j y hy k hk => ?_⟩
  · obtain ⟨x, m, hx, hm, rfl, _⟩ := e j y hy
    exact turned_lt (h.lt _ _ hx) hm on
  · obtain ⟨x, m, hx, hm, rfl, hb⟩ := e j y hy
    rw [turned_bit hm on hk, hb k hk, h.bit _ _ hx k hk]
    rcases Nat.lt_or_ge (64 * j + k) l.length with hi | hi
    · rw [putL_isOn _ _ _ _ hi]
      simp
    · rw [isOn_behind (l := putL l a n on) (by rw [putL_length]; exact hi), isOn_behind hi, if_neg (by simp; omega)]
theorem turned_none (x : Nat) (hx : x < 18446744073709551616) (on : Bool) : turned x 0 on = x :=
  word_ext (turned_lt hx (by omega) on) hx fun k hk => by rw [turned_bit (by omega) on hk, Nat.zero_testBit]; rfl
theorem turned_all (x : Nat) (hx : x < 18446744073709551616) (on : Bool) : turned x 18446744073709551615 on = if on then 18446744073709551615 else 0 := by
  apply word_ext (turned_lt hx (by omega) on) (by split <;> omega)
  intro k hk
  have e : (18446744073709551615 : Nat).testBit k = true := by
    rw [show (18446744073709551615 : Nat) = 2 ^ 64 - 1 from rfl, Nat.testBit_two_pow_sub_one, decide_eq_true hk]
  rw [turned_bit (by omega) on hk, e]
  cases on
  · simp
  · simp [e]

/-- A put within one word. -/
theorem Words.put_one {l : List Bool} {ws : List Nat} (h : Words l ws) {f t : Nat} (on : Bool) (hft : f ≤ t) (ht : t < l.length) (he : f / 64 = t / 64) {x : Nat} (hx : ws[f / 64]? = some x) :
    Words (putL l f (t + 1 - f) on) (ws.set (f / 64) (turned x (fromM (f % 64) &&& uptoM (t % 64)) on)) := by
  refine h.step f (t + 1 - f) on _ (by simp) (fun j y hy => ?_) (by omega)
  by_cases hj : f / 64 = j
  · subst hj
    rw [hx] at hy
    injection hy with hy
    subst hy
    refine ⟨fromM (f % 64) &&& uptoM (t % 64), Nat.and_lt_two_pow (n := 64) _ (uptoM_lt _), ?_, fun k hk => ?_⟩
    · rw [List.getElem?_set_self (List.getElem?_eq_some_iff.1 hx).1]
    · rw [Nat.testBit_and, fromM_bit _ _ hk, uptoM_bit _ _ (by omega), Bool.eq_iff_iff]
      simp
      omega
  · refine ⟨0, by omega, ?_, fun k hk => ?_⟩
    · rw [List.getElem?_set_ne hj, hy, turned_none _ (h.lt _ _ hy)]
    · rw [Nat.zero_testBit, Bool.eq_iff_iff]
      simp
      omega
/-- A put over several words: the first, those between, the last. -/
def putMany (ws : List Nat) (p q x y v : Nat) : List Nat := (List.range ws.length).map fun j => if j = p then x else if j = q then y else if p < j ∧ j < q then v else ws.getD j 0
theorem Words.put_many {l : List Bool} {ws : List Nat} (h : Words l ws) {f t : Nat} (on : Bool) (ht : t < l.length) (he : f / 64 < t / 64) {x y : Nat} (hx : ws[f / 64]? = some x) (hy : ws[t / 64]? = some y) :
    Words (putL l f (t + 1 - f) on) (putMany ws (f / 64) (t / 64) (turned x (fromM (f % 64)) on) (turned y (uptoM (t % 64)) on) (if on then 18446744073709551615 else 0)) := by
  refine h.step f (t + 1 - f) on _ (by simp [putMany]) (fun j z hz => ?_) (by omega)
  have hj : j < ws.length := (List.getElem?_eq_some_iff.1 hz).1
  have e : (putMany ws (f / 64) (t / 64) (turned x (fromM (f % 64)) on) (turned y (uptoM (t % 64)) on) (if on then 18446744073709551615 else 0))[j]? = some (if j = f / 64 then turned x (fromM (f % 64)) on else if j = t / 64 then turned y (uptoM (t % 64)) on else if f / 64 < j ∧ j < t / 64 then (if on then 18446744073709551615 else 0) else ws.getD j 0) := by
    simp [putMany, hj]
  rw [e]
  by_cases h1 : j = f / 64
  · subst h1
    rw [hx] at hz
    injection hz with hz
    subst hz
    refine ⟨fromM (f % 64), fromM_lt _, by rw [if_pos rfl], fun k hk => ?_⟩
    rw [fromM_bit _ _ hk, Bool.eq_iff_iff]
    simp
    omega
  · rw [if_neg h1]
    by_cases h2 : j = t / 64
    · subst h2
      rw [hy] at hz
      injection hz with hz
      subst hz
      refine ⟨uptoM (t % 64), uptoM_lt _, by rw [if_pos rfl], fun k hk => ?_⟩
      rw [uptoM_bit _ _ (by omega), Bool.eq_iff_iff]
      simp
      omega
    · rw [if_neg h2]
      by_cases h3 : f / 64 < j ∧ j < t / 64
      · rw [if_pos h3]
        refine ⟨18446744073709551615, by omega, by rw [turned_all _ (h.lt _ _ hz)], fun k hk => ?_⟩
        rw [show (18446744073709551615 : Nat) = 2 ^ 64 - 1 from rfl, Nat.testBit_two_pow_sub_one, Bool.eq_iff_iff]
        simp
        omega
      · rw [if_neg h3]
        refine ⟨0, by omega, ?_, fun k hk => ?_⟩
        · rw [List.getD_eq_getElem?_getD, hz, turned_none _ (h.lt _ _ hz)]
          rfl
        · rw [Nat.zero_testBit, Bool.eq_iff_iff]
          simp
          omega

/-- How many are on. -/
def countL (l : List Bool) : Nat := cnt (isOn l) l.length
theorem Words.count_step {l : List Bool} {ws : List Nat} (h : Words l ws) {j x : Nat} (hx : ws[j]? = some x) : cnt (isOn l) (64 * (j + 1)) = cnt (isOn l) (64 * j) + ones x := by
  rw [show 64 * (j + 1) = 64 * j + 64 by omega, cnt_add]
  congr 1
  exact cnt_congr fun k hk => (h.bit _ _ hx k hk).symm
theorem Words.count_all {l : List Bool} {ws : List Nat} (h : Words l ws) : cnt (isOn l) (64 * ws.length) = countL l :=
  cnt_off (by have := h.len; omega) fun _ hk _ => isOn_behind hk
theorem countL_le (l : List Bool) : countL l ≤ l.length := cnt_le _ _
end Go.Proofs.YthiijnanfiddpaaDoor

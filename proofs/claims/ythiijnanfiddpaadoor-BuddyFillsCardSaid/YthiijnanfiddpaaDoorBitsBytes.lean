/-
  Plain mathematics: a list of truths as bytes, and bytes as words; no program, no condition.
-/
import Derived.Test.YthiijnanfiddpaaDoorBitsNext
namespace Go.Proofs.YthiijnanfiddpaaDoor
open Go.RowKit

/-- Eight truths as a byte. -/
def byteN (f : Nat → Bool) : Nat := (f 0).toNat + 2 * (f 1).toNat + 4 * (f 2).toNat + 8 * (f 3).toNat + 16 * (f 4).toNat + 32 * (f 5).toNat + 64 * (f 6).toNat + 128 * (f 7).toNat
theorem byteN_all : ∀ b0 b1 b2 b3 b4 b5 b6 b7 : Bool, ∀ k : Fin 8,
    (b0.toNat + 2 * b1.toNat + 4 * b2.toNat + 8 * b3.toNat + 16 * b4.toNat + 32 * b5.toNat + 64 * b6.toNat + 128 * b7.toNat).testBit k.val = [b0, b1, b2, b3, b4, b5, b6, b7].getD k.val false := by decide +kernel
theorem byteN_lt (f : Nat → Bool) : byteN f < 256 := by
  have h : ∀ b : Bool, b.toNat ≤ 1 := fun b => by cases b <;> simp
  have h0 := h (f 0)
  have h1 := h (f 1)
  have h2 := h (f 2)
  have h3 := h (f 3)
  have h4 := h (f 4)
  have h5 := h (f 5)
  have h6 := h (f 6)
  have h7 := h (f 7)
  unfold byteN
  omega
theorem byteN_bit (f : Nat → Bool) {k : Nat} (hk : k < 8) : (byteN f).testBit k = f k := by
  have h := byteN_all (f 0) (f 1) (f 2) (f 3) (f 4) (f 5) (f 6) (f 7) ⟨k, hk⟩
  unfold byteN
  rw [h]
  match k, hk with
  | 0, _ => rfl
  | 1, _ => rfl
  | 2, _ => rfl
  | 3, _ => rfl
  | 4, _ => rfl
  | 5, _ => rfl
  | 6, _ => rfl
  | 7, _ => rfl
theorem byte_ext {x y : Nat} (hx : x < 256) (hy : y < 256) (h : ∀ k, k < 8 → x.testBit k = y.testBit k) : x = y := by
  apply Nat.eq_of_testBit_eq
  intro i
  rcases Nat.lt_or_ge i 8 with hi | hi
  · exact h i hi
  · have e : ∀ z : Nat, z < 256 → z.testBit i = false := fun z hz =>
      Nat.testBit_lt_two_pow (Nat.lt_of_lt_of_le (show z < 2 ^ 8 by omega) (Nat.pow_le_pow_right (by omega) hi))
    rw [e x hx, e y hy]
theorem byteN_congr {f g : Nat → Bool} (h : ∀ k, k < 8 → f k = g k) : byteN f = byteN g :=
  byte_ext (byteN_lt _) (byteN_lt _) fun k hk => by rw [byteN_bit f hk, byteN_bit g hk, h k hk]

/-- The list's bytes. -/
def bytesL (l : List Bool) : List UInt8 := (List.range ((l.length + 7) / 8)).map fun i => UInt8.ofNat (byteN fun k => isOn l (8 * i + k))
theorem bytesL_length (l : List Bool) : (bytesL l).length = (l.length + 7) / 8 := by simp [bytesL]
theorem bytesL_get {l : List Bool} {i : Nat} (hi : i < (l.length + 7) / 8) : (bytesL l)[i]? = some (UInt8.ofNat (byteN fun k => isOn l (8 * i + k))) := by simp [bytesL, hi]
theorem ofNat_byteN (f : Nat → Bool) : (UInt8.ofNat (byteN f)).toNat = byteN f := by
  have := byteN_lt f
  simp
  omega
/-- The byte that the word's shift yields. -/
theorem Words.byte {l : List Bool} {ws : List Nat} (h : Words l ws) {i x : Nat} (hx : ws[i / 8]? = some x) : x / 2 ^ (i % 8 * 8) % 256 = byteN fun k => isOn l (8 * i + k) := by
  refine byte_ext (Nat.mod_lt _ (by omega)) (byteN_lt _) fun k hk => ?_
  rw [byteN_bit _ hk, show (256 : Nat) = 2 ^ 8 from rfl, Nat.testBit_mod_two_pow, decide_eq_true hk, Bool.true_and, Nat.testBit_div_two_pow, h.bit _ _ hx _ (by omega)]
  congr 1
  omega

/-- The first m places alone. -/
theorem isOn_take (l : List Bool) (m i : Nat) : isOn (l.take m) i = (decide (i < m) && isOn l i) := by
  unfold isOn
  rw [List.getD_eq_getElem?_getD, List.getElem?_take]
  split
  · rename_i h
    rw [decide_eq_true h]
    simp [List.getD_eq_getElem?_getD]
  · rename_i h
    rw [decide_eq_false h]
    rfl
/-- One place more: a byte more where it is the first of its byte; its value is added to its byte. -/
theorem bytesL_open {l : List Bool} {m : Nat} (hm : m < l.length) (h8 : m % 8 = 0) : (bytesL (l.take m) ++ [0]).length = (m + 1 + 7) / 8 ∧ (bytesL (l.take m) ++ [0])[m / 8]? = some 0 := by
  have e : (bytesL (l.take m)).length = m / 8 := by rw [bytesL_length, List.length_take]; omega
  exact ⟨by rw [List.length_append, e]; simp; omega, by rw [List.getElem?_append_right (by omega), e]; simp⟩
theorem byteN_more (f g : Nat → Bool) {j : Nat} (hj : j < 8) (b : Bool) (hf : ∀ k, j ≤ k → f k = false) (hg : ∀ k, k < 8 → g k = if k = j then b else f k) : byteN g = byteN f + if b then 2 ^ j else 0 := by
  have e : ∀ k, k < 8 → (g k).toNat = (f k).toNat + if k = j then b.toNat else 0 := fun k hk => by
    rw [hg k hk]
    split
    · rename_i h
      subst h
      rw [hf k (Nat.le_refl _)]
      simp
    · simp
  unfold byteN
  rw [e 0 (by omega), e 1 (by omega), e 2 (by omega), e 3 (by omega), e 4 (by omega), e 5 (by omega), e 6 (by omega), e 7 (by omega)]
  match j, hj with
  | 0, _ => cases b <;> simp <;> omega
  | 1, _ => cases b <;> simp <;> omega
  | 2, _ => cases b <;> simp <;> omega
  | 3, _ => cases b <;> simp <;> omega
  | 4, _ => cases b <;> simp <;> omega
  | 5, _ => cases b <;> simp <;> omega
  | 6, _ => cases b <;> simp <;> omega
  | 7, _ => cases b <;> simp <;> omega
/-- The byte that the place m is in, as far as it is read. -/
def partB (l : List Bool) (m : Nat) : Nat := byteN fun k => isOn (l.take m) (8 * (m / 8) + k)
theorem partB_lt (l : List Bool) (m : Nat) : partB l m + 2 ^ (m % 8) < 256 := by
  have h := byteN_more (fun k => isOn (l.take m) (8 * (m / 8) + k)) (fun k => if k = m % 8 then true else isOn (l.take m) (8 * (m / 8) + k)) (j := m % 8) (by omega) true
    (fun k hk => by rw [isOn_take, decide_eq_false (by omega)]; rfl) (fun k _ => rfl)
  have h2 := byteN_lt fun k => if k = m % 8 then true else isOn (l.take m) (8 * (m / 8) + k)
  rw [h, if_pos rfl] at h2
  unfold partB
  omega
theorem partB_zero (l : List Bool) {m : Nat} (h8 : m % 8 = 0) : partB l m = 0 := by
  unfold partB
  refine byte_ext (byteN_lt _) (by omega) fun k hk => ?_
  rw [byteN_bit _ hk, Nat.zero_testBit, isOn_take, decide_eq_false (by omega)]
  rfl
theorem bytesL_step {l : List Bool} {m : Nat} (hm : m < l.length) (bs : List UInt8) (hl : bs.length = (m + 1 + 7) / 8) (hb : ∀ i, i < (m + 7) / 8 → bs[i]? = (bytesL (l.take m))[i]?) :
    bs.set (m / 8) (UInt8.ofNat (partB l m + if isOn l m then 2 ^ (m % 8) else 0)) = bytesL (l.take (m + 1)) := by
  have hlen : (bytesL (l.take (m + 1))).length = (m + 1 + 7) / 8 := by rw [bytesL_length, List.length_take]; omega
  apply List.ext_getElem?
  intro i
  rcases Nat.lt_or_ge i ((m + 1 + 7) / 8) with hi | hi
  · rw [bytesL_get (by rw [List.length_take]; omega)]
    by_cases he : m / 8 = i
    · subst he
      rw [List.getElem?_set_self (by omega)]
      congr 2
      exact (byteN_more (fun k => isOn (l.take m) (8 * (m / 8) + k)) _ (j := m % 8) (by omega) (isOn l m) (fun k hk => by rw [isOn_take, decide_eq_false (by omega)]; rfl) (fun k hk => by
        show isOn (l.take (m + 1)) (8 * (m / 8) + k) = if k = m % 8 then isOn l m else isOn (l.take m) (8 * (m / 8) + k)
        rw [isOn_take, isOn_take]
        split
        · rename_i h
          rw [decide_eq_true (by omega), show 8 * (m / 8) + k = m by omega]; rfl
        · rename_i h
          congr 1
          simp
          omega)).symm
    · rw [List.getElem?_set_ne he, hb i (by omega), bytesL_get (by rw [List.length_take]; omega)]
      congr 2
      refine byteN_congr fun k hk => ?_
      rw [isOn_take, isOn_take]
      congr 1
      simp
      omega
  · rw [List.getElem?_eq_none (by rw [List.length_set]; omega), List.getElem?_eq_none (by omega)]

/-- The list that n bits in bytes are. -/
def bitsOf (n : Nat) (b : List UInt8) : List Bool := (List.range n).map fun i => (b.getD (i / 8) 0).toNat.testBit (i % 8)
theorem bitsOf_length (n : Nat) (b : List UInt8) : (bitsOf n b).length = n := by simp [bitsOf]
theorem bitsOf_isOn (n : Nat) (b : List UInt8) (i : Nat) : isOn (bitsOf n b) i = (decide (i < n) && (b.getD (i / 8) 0).toNat.testBit (i % 8)) := by
  rcases Nat.lt_or_ge i n with h | h
  · rw [decide_eq_true h, Bool.true_and]
    exact isOn_get (by simp [bitsOf, h])
  · rw [decide_eq_false (by omega), isOn_behind (by rw [bitsOf_length]; exact h)]
    rfl
theorem bitsOf_snoc (n : Nat) (b : List UInt8) : bitsOf (n + 1) b = bitsOf n b ++ [(b.getD (n / 8) 0).toNat.testBit (n % 8)] := by simp [bitsOf, List.range_succ]
/-- A bit behind the last of n places is on in the bytes. -/
def behindB (n : Nat) (b : List UInt8) : Bool := decide (n % 8 ≠ 0) && decide ((b.getD (n / 8) 0).toNat / 2 ^ (n % 8) ≠ 0)
/-- They are the bytes of the list that is read out of them just if there is none. -/
theorem bytesL_bitsOf {n : Nat} {b : List UInt8} (hl : b.length = (n + 7) / 8) : bytesL (bitsOf n b) = b ↔ behindB n b = false := by
  have e : ∀ i, i < (n + 7) / 8 → ∀ k, k < 8 → (byteN fun k => isOn (bitsOf n b) (8 * i + k)).testBit k = (decide (8 * i + k < n) && (b.getD i 0).toNat.testBit k) := fun i hi k hk => by
    rw [byteN_bit _ hk, bitsOf_isOn, show (8 * i + k) / 8 = i by omega, show (8 * i + k) % 8 = k by omega]
  have hbi : ∀ i, (b.getD i 0).toNat < 256 := fun i => (b.getD i 0).toNat_lt
  constructor
  · intro h
    unfold behindB
    rcases Nat.eq_zero_or_pos (n % 8) with h0 | h0
    · simp [h0]
    · have hi : n / 8 < (n + 7) / 8 := by omega
      have h1 := bytesL_get (l := bitsOf n b) (i := n / 8) (by rw [bitsOf_length]; exact hi)
      rw [h] at h1
      have h2 : (b.getD (n / 8) 0).toNat = byteN fun k => isOn (bitsOf n b) (8 * (n / 8) + k) := by
        rw [List.getD_eq_getElem?_getD, h1]
        exact ofNat_byteN _
      have h3 : (b.getD (n / 8) 0).toNat / 2 ^ (n % 8) = 0 := by
        apply Nat.eq_of_testBit_eq
        intro k
        rw [Nat.zero_testBit, Nat.testBit_div_two_pow, h2]
        rcases Nat.lt_or_ge (k + n % 8) 8 with h4 | h4
        · rw [e _ hi _ h4, decide_eq_false (by omega)]; rfl
        · exact Nat.testBit_lt_two_pow (Nat.lt_of_lt_of_le (show byteN _ < 2 ^ 8 from byteN_lt _) (Nat.pow_le_pow_right (by omega) h4))
      rw [decide_eq_false (p := (b.getD (n / 8) 0).toNat / 2 ^ (n % 8) ≠ 0) (by rw [h3]; simp), Bool.and_false]
  · intro h
    apply List.ext_getElem?
    intro i
    rcases Nat.lt_or_ge i ((n + 7) / 8) with hi | hi
    · rw [bytesL_get (by rw [bitsOf_length]; exact hi)]
      have hib : i < b.length := by omega
      have hg : b.getD i 0 = b[i] := by rw [List.getD_eq_getElem?_getD, List.getElem?_eq_getElem hib]; rfl
      rw [List.getElem?_eq_getElem hib, ← hg]
      congr 1
      apply UInt8.toNat_inj.1
      rw [ofNat_byteN]
      refine byte_ext (byteN_lt _) (hbi i) fun k hk => ?_
      rw [e i hi k hk]
      rcases Nat.lt_or_ge (8 * i + k) n with h1 | h1
      · rw [decide_eq_true h1]; rfl
      · rw [decide_eq_false (by omega)]
        have h2 : i = n / 8 := by omega
        have h3 : n % 8 ≠ 0 := by omega
        unfold behindB at h
        rw [decide_eq_true h3, Bool.true_and] at h
        have h4 : (b.getD i 0).toNat / 2 ^ (n % 8) = 0 := by rw [h2]; simpa using h
        have h5 := Nat.testBit_div_two_pow (n := n % 8) (b.getD i 0).toNat (k - n % 8)
        rw [h4, Nat.zero_testBit, show k - n % 8 + n % 8 = k by omega] at h5
        rw [← h5]
        rfl
    · rw [List.getElem?_eq_none (by rw [bytesL_length, bitsOf_length]; exact hi), List.getElem?_eq_none (by omega)]
theorem bitsOf_bytesL (l : List Bool) : bitsOf l.length (bytesL l) = l :=
  isOn_ext (bitsOf_length ..) fun i hi => by
    rw [bitsOf_length] at hi
    rw [bitsOf_isOn, decide_eq_true hi, Bool.true_and, List.getD_eq_getElem?_getD, bytesL_get (by omega), Option.getD_some, ofNat_byteN, byteN_bit _ (by omega), show 8 * (i / 8) + i % 8 = i by omega]

/-- Words as far as the first m bytes are joined in. -/
structure Joined (b : List UInt8) (m : Nat) (ws : List Nat) : Prop where
  len : ws.length = (b.length + 7) / 8
  lt : ∀ (j x : Nat), ws[j]? = some x → x < 18446744073709551616
  bit : ∀ (j x : Nat), ws[j]? = some x → ∀ k, k < 64 → x.testBit k = (decide (8 * j + k / 8 < m) && (b.getD (8 * j + k / 8) 0).toNat.testBit (k % 8))
theorem joined_none (b : List UInt8) : Joined b 0 (List.replicate ((b.length + 7) / 8) 0) := by
  refine ⟨by simp, fun j x hx => ?_, fun j x hx k _ => ?_⟩
  · have := List.eq_of_mem_replicate (List.mem_of_getElem? hx)
    omega
  · have := List.eq_of_mem_replicate (List.mem_of_getElem? hx)
    subst this
    simp
theorem Joined.step {b : List UInt8} {m : Nat} {ws : List Nat} (h : Joined b m ws) {x : Nat} {y : UInt8} (hm : b[m]? = some y) (hx : ws[m / 8]? = some x) : Joined b (m + 1) (ws.set (m / 8) (x ||| y.toNat * 2 ^ (m % 8 * 8) % 18446744073709551616)) := by
  have hy : b.getD m 0 = y := by rw [List.getD_eq_getElem?_getD, hm]; rfl
  refine ⟨by rw [List.length_set]; exact h.len, fun j z hz => ?_, fun j z hz k hk => ?_⟩
  · by_cases he : m / 8 = j
    · subst he
      rw [List.getElem?_set_self (List.getElem?_eq_some_iff.1 hx).1] at hz
      injection hz with hz
      subst hz
      exact Nat.or_lt_two_pow (n := 64) (h.lt _ _ hx) (Nat.mod_lt _ (by omega))
    · rw [List.getElem?_set_ne he] at hz
      exact h.lt _ _ hz
  · by_cases he : m / 8 = j
    · subst he
      rw [List.getElem?_set_self (List.getElem?_eq_some_iff.1 hx).1] at hz
      injection hz with hz
      subst hz
      rw [Nat.testBit_or, h.bit _ _ hx k hk, show (18446744073709551616 : Nat) = 2 ^ 64 from rfl, Nat.testBit_mod_two_pow, Nat.testBit_mul_two_pow, decide_eq_true hk, Bool.true_and]
      rcases Nat.lt_trichotomy (8 * (m / 8) + k / 8) m with h1 | h1 | h1
      · rw [decide_eq_true h1, decide_eq_true (show 8 * (m / 8) + k / 8 < m + 1 by omega), decide_eq_false (show ¬ m % 8 * 8 ≤ k by omega)]; simp
      · rw [decide_eq_false (show ¬ 8 * (m / 8) + k / 8 < m by omega), decide_eq_true (show 8 * (m / 8) + k / 8 < m + 1 by omega), decide_eq_true (show m % 8 * 8 ≤ k by omega), h1, hy, show k - m % 8 * 8 = k % 8 by omega]; simp
      · rw [decide_eq_false (show ¬ 8 * (m / 8) + k / 8 < m by omega), decide_eq_false (show ¬ 8 * (m / 8) + k / 8 < m + 1 by omega)]
        have : y.toNat.testBit (k - m % 8 * 8) = false :=
          Nat.testBit_lt_two_pow (Nat.lt_of_lt_of_le (show y.toNat < 2 ^ 8 from y.toNat_lt) (Nat.pow_le_pow_right (by omega) (by omega)))
        rw [this]; simp
    · rw [List.getElem?_set_ne he] at hz
      rw [h.bit _ _ hz k hk]
      congr 1
      simp
      omega
theorem Joined.words {n : Nat} {b : List UInt8} {ws : List Nat} (h : Joined b b.length ws) (hl : b.length = (n + 7) / 8) (hn : behindB n b = false) : Words (bitsOf n b) ws := by
  refine ⟨by rw [h.len, bitsOf_length]; omega, h.lt, fun j x hx k hk => ?_⟩
  have hb := (bytesL_bitsOf hl).2 hn
  rw [h.bit _ _ hx k hk, bitsOf_isOn, show (64 * j + k) / 8 = 8 * j + k / 8 by omega, show (64 * j + k) % 8 = k % 8 by omega]
  rcases Nat.lt_or_ge (64 * j + k) n with h1 | h1
  · rw [decide_eq_true h1, decide_eq_true (by omega)]
  · rw [decide_eq_false (show ¬ 64 * j + k < n by omega), Bool.false_and]
    rcases Nat.lt_or_ge (8 * j + k / 8) b.length with h2 | h2
    · rw [decide_eq_true h2, Bool.true_and]
      have h3 := bytesL_get (l := bitsOf n b) (i := 8 * j + k / 8) (by rw [bitsOf_length]; omega)
      rw [hb] at h3
      rw [List.getD_eq_getElem?_getD, h3, Option.getD_some, ofNat_byteN, byteN_bit _ (by omega), isOn_behind (by rw [bitsOf_length]; omega)]
    · rw [decide_eq_false (by omega)]; rfl
end Go.Proofs.YthiijnanfiddpaaDoor

/-
  Plain mathematics: truths that stand in words of 64 bits; how many are on in a word; no program, no condition.
-/
import Derived.Test.YthiijnanfiddpaaDoorMem
import Derived.Laws.Bits64b
import Derived.Laws.BitsAllLaws
import Derived.Lib.TrailingZeros
namespace Go.Proofs.YthiijnanfiddpaaDoor
open Go.RowKit

/-- So many of the first n are on. -/
def cnt (f : Nat → Bool) : Nat → Nat
  | 0 => 0
  | n + 1 => cnt f n + (f n).toNat
theorem cnt_add (f : Nat → Bool) (a : Nat) : ∀ b, cnt f (a + b) = cnt f a + cnt (fun k => f (a + k)) b
  | 0 => rfl
  | b + 1 => by
    rw [← Nat.add_assoc]
    show cnt f (a + b) + _ = _ + (_ + _)
    rw [cnt_add f a b, Nat.add_assoc]
theorem cnt_congr {f g : Nat → Bool} : ∀ {n : Nat}, (∀ k, k < n → f k = g k) → cnt f n = cnt g n
  | 0, _ => rfl
  | n + 1, h => by
    show cnt f n + _ = cnt g n + _
    rw [cnt_congr fun k hk => h k (by omega), h n (by omega)]
theorem cnt_off {f : Nat → Bool} {a : Nat} : ∀ {b : Nat}, a ≤ b → (∀ k, a ≤ k → k < b → f k = false) → cnt f b = cnt f a
  | 0, h, _ => by rw [Nat.le_zero.1 h]
  | b + 1, h, hf => by
    rcases Nat.lt_or_ge b a with h1 | h1
    · rw [show b + 1 = a by omega]
    · show cnt f b + _ = _
      rw [hf b h1 (by omega), cnt_off h1 fun k hk hl => hf k hk (by omega)]
      rfl
theorem cnt_le (f : Nat → Bool) : ∀ n, cnt f n ≤ n
  | 0 => Nat.le_refl _
  | n + 1 => by
    have := cnt_le f n
    show cnt f n + _ ≤ _
    cases f n <;> simp <;> omega

/-- The bit in a place; off behind the last one. -/
def isOn (l : List Bool) (i : Nat) : Bool := l.getD i false
theorem isOn_behind {l : List Bool} {i : Nat} (h : l.length ≤ i) : isOn l i = false := by
  unfold isOn
  rw [List.getD_eq_getElem?_getD, List.getElem?_eq_none h]
  rfl
theorem isOn_get {l : List Bool} {i : Nat} {x : Bool} (h : l[i]? = some x) : isOn l i = x := by
  unfold isOn
  rw [List.getD_eq_getElem?_getD, h]
  rfl
theorem get_isOn {l : List Bool} {i : Nat} (h : i < l.length) : l[i]? = some (isOn l i) := by
  rw [List.getElem?_eq_getElem h, isOn_get (List.getElem?_eq_getElem h)]
theorem isOn_ext {l m : List Bool} (hl : l.length = m.length) (h : ∀ i, i < l.length → isOn l i = isOn m i) : l = m := by
  apply List.ext_getElem? 
  intro i
  rcases Nat.lt_or_ge i l.length with hi | hi
  · rw [get_isOn hi, get_isOn (by omega), h i hi]
  · rw [List.getElem?_eq_none hi, List.getElem?_eq_none (by omega)]

/-- How many bits of a word are on. -/
def ones (x : Nat) : Nat := cnt x.testBit 64
theorem ones_le (x : Nat) : ones x ≤ 64 := cnt_le _ _

theorem and_byte (a m y M : Nat) (ha : a < 256) (hm : m < 256) : (a + 256 * y) &&& (m + 256 * M) = (a &&& m) + 256 * (y &&& M) := by
  have e : ∀ p q : Nat, p < 256 → ∀ i, (p + 256 * q).testBit i = if i < 8 then p.testBit i else q.testBit (i - 8) := fun p q hp i => by
    rw [Nat.add_comm]
    exact Nat.testBit_two_pow_mul_add q (i := 8) (by omega) i
  have hb : a &&& m < 256 := Nat.and_lt_two_pow (n := 8) a (by omega)
  apply Nat.eq_of_testBit_eq
  intro i
  rw [Nat.testBit_and, e a y ha, e m M hm, e _ _ hb]
  split
  · rw [Nat.testBit_and]
  · rw [Nat.testBit_and]

/-- Eight bytes as a number, the lowest first. -/
def num8 (b0 b1 b2 b3 b4 b5 b6 b7 : Nat) : Nat := b0 + 256 * (b1 + 256 * (b2 + 256 * (b3 + 256 * (b4 + 256 * (b5 + 256 * (b6 + 256 * b7))))))
theorem and_num8 (m b0 b1 b2 b3 b4 b5 b6 b7 : Nat) (hm : m < 256) (h0 : b0 < 256) (h1 : b1 < 256) (h2 : b2 < 256) (h3 : b3 < 256) (h4 : b4 < 256) (h5 : b5 < 256) (h6 : b6 < 256) :
    num8 b0 b1 b2 b3 b4 b5 b6 b7 &&& num8 m m m m m m m m = num8 (b0 &&& m) (b1 &&& m) (b2 &&& m) (b3 &&& m) (b4 &&& m) (b5 &&& m) (b6 &&& m) (b7 &&& m) := by
  unfold num8
  rw [and_byte _ _ _ _ h0 hm, and_byte _ _ _ _ h1 hm, and_byte _ _ _ _ h2 hm, and_byte _ _ _ _ h3 hm, and_byte _ _ _ _ h4 hm, and_byte _ _ _ _ h5 hm, and_byte _ _ _ _ h6 hm]
theorem num8_testBit (b0 b1 b2 b3 b4 b5 b6 b7 : Nat) (h0 : b0 < 256) (h1 : b1 < 256) (h2 : b2 < 256) (h3 : b3 < 256) (h4 : b4 < 256) (h5 : b5 < 256) (h6 : b6 < 256) :
    ones (num8 b0 b1 b2 b3 b4 b5 b6 b7) = cnt b0.testBit 8 + cnt b1.testBit 8 + cnt b2.testBit 8 + cnt b3.testBit 8 + cnt b4.testBit 8 + cnt b5.testBit 8 + cnt b6.testBit 8 + cnt b7.testBit 8 := by
  have e : ∀ p q n : Nat, p < 256 → cnt (p + 256 * q).testBit (8 + n) = cnt p.testBit 8 + cnt q.testBit n := fun p q n hp => by
    have e1 : ∀ i, (p + 256 * q).testBit i = if i < 8 then p.testBit i else q.testBit (i - 8) := fun i => by
      rw [Nat.add_comm]
      exact Nat.testBit_two_pow_mul_add q (i := 8) (by omega) i
    rw [cnt_add]
    congr 1
    · exact cnt_congr fun k hk => by rw [e1, if_pos hk]
    · exact cnt_congr fun k hk => by rw [e1, if_neg (by omega), show 8 + k - 8 = k by omega]
  unfold ones num8
  rw [show 64 = 8 + (8 + (8 + (8 + (8 + (8 + (8 + 8)))))) from rfl, e _ _ _ h0, e _ _ _ h1, e _ _ _ h2, e _ _ _ h3, e _ _ _ h4, e _ _ _ h5, e _ _ _ h6]
  omega
theorem num8_of (x : Nat) (hx : x < 18446744073709551616) : ∃ b0 b1 b2 b3 b4 b5 b6 b7, x = num8 b0 b1 b2 b3 b4 b5 b6 b7 ∧ b0 < 256 ∧ b1 < 256 ∧ b2 < 256 ∧ b3 < 256 ∧ b4 < 256 ∧ b5 < 256 ∧ b6 < 256 ∧ b7 < 256 := by
  refine ⟨x % 256, x / 256 % 256, x / 65536 % 256, x / 16777216 % 256, x / 4294967296 % 256, x / 1099511627776 % 256, x / 281474976710656 % 256, x / 72057594037927936, ?_⟩
  unfold num8
  omega

theorem one1 : ∀ b : Fin 256, (b.val / 2 &&& 85) + (b.val &&& 85) ≤ 170 ∧ (b.val / 2 + 128 &&& 85) = (b.val / 2 &&& 85) := by decide +kernel
theorem one2 : ∀ b : Fin 171, ∀ t : Fin 4, (b.val / 4 + 64 * t.val &&& 51) = (b.val / 4 &&& 51) := by decide +kernel
/-- What the three steps make of a byte. -/
def p1 (b : Nat) : Nat := (b / 2 &&& 85) + (b &&& 85)
def p2 (d : Nat) : Nat := (d / 4 &&& 51) + (d &&& 51)
def p3 (e : Nat) : Nat := (e / 16 + e) % 16
theorem one3 : ∀ b : Fin 256, p2 (p1 b.val) ≤ 68 ∧ p2 (p1 b.val) % 16 ≤ 4 ∧ p3 (p2 (p1 b.val)) = cnt b.val.testBit 8 := by decide +kernel
theorem p1_le {b : Nat} (h : b < 256) : p1 b ≤ 170 := (one1 ⟨b, h⟩).1
theorem p1_and {b : Nat} (h : b < 256) (t : Nat) : (b / 2 + 128 * (t % 2)) &&& 85 = b / 2 &&& 85 := by
  rcases Nat.mod_two_eq_zero_or_one t with e | e <;> rw [e]
  · rfl
  · exact (one1 ⟨b, h⟩).2
theorem p2_and {d : Nat} (h : d ≤ 170) (t : Nat) : (d / 4 + 64 * (t % 4)) &&& 51 = d / 4 &&& 51 := one2 ⟨d, by omega⟩ ⟨t % 4, by omega⟩
theorem num8_add (a0 a1 a2 a3 a4 a5 a6 a7 b0 b1 b2 b3 b4 b5 b6 b7 : Nat) : num8 a0 a1 a2 a3 a4 a5 a6 a7 + num8 b0 b1 b2 b3 b4 b5 b6 b7 = num8 (a0 + b0) (a1 + b1) (a2 + b2) (a3 + b3) (a4 + b4) (a5 + b5) (a6 + b6) (a7 + b7) := by
  unfold num8; omega
theorem num8_lt {b0 b1 b2 b3 b4 b5 b6 b7 : Nat} (h0 : b0 < 256) (h1 : b1 < 256) (h2 : b2 < 256) (h3 : b3 < 256) (h4 : b4 < 256) (h5 : b5 < 256) (h6 : b6 < 256) (h7 : b7 < 256) : num8 b0 b1 b2 b3 b4 b5 b6 b7 < 18446744073709551616 := by
  unfold num8; omega

theorem ones_step1 {b0 b1 b2 b3 b4 b5 b6 b7 : Nat} (h0 : b0 < 256) (h1 : b1 < 256) (h2 : b2 < 256) (h3 : b3 < 256) (h4 : b4 < 256) (h5 : b5 < 256) (h6 : b6 < 256) (h7 : b7 < 256) :
    (num8 b0 b1 b2 b3 b4 b5 b6 b7 / 2 &&& 6148914691236517205) + (num8 b0 b1 b2 b3 b4 b5 b6 b7 &&& 6148914691236517205) = num8 (p1 b0) (p1 b1) (p1 b2) (p1 b3) (p1 b4) (p1 b5) (p1 b6) (p1 b7) := by
  have hd : num8 b0 b1 b2 b3 b4 b5 b6 b7 / 2 = num8 (b0 / 2 + 128 * (b1 % 2)) (b1 / 2 + 128 * (b2 % 2)) (b2 / 2 + 128 * (b3 % 2)) (b3 / 2 + 128 * (b4 % 2)) (b4 / 2 + 128 * (b5 % 2)) (b5 / 2 + 128 * (b6 % 2)) (b6 / 2 + 128 * (b7 % 2)) (b7 / 2 + 128 * (0 % 2)) := by
    unfold num8; omega
  rw [hd, show (6148914691236517205 : Nat) = num8 85 85 85 85 85 85 85 85 from rfl, and_num8 85 _ _ _ _ _ _ _ _ (by omega) (by omega) (by omega) (by omega) (by omega) (by omega) (by omega) (by omega),
    and_num8 85 _ _ _ _ _ _ _ _ (by omega) h0 h1 h2 h3 h4 h5 h6, p1_and h0, p1_and h1, p1_and h2, p1_and h3, p1_and h4, p1_and h5, p1_and h6, p1_and h7, num8_add]
  rfl
theorem ones_step2 {b0 b1 b2 b3 b4 b5 b6 b7 : Nat} (h0 : b0 ≤ 170) (h1 : b1 ≤ 170) (h2 : b2 ≤ 170) (h3 : b3 ≤ 170) (h4 : b4 ≤ 170) (h5 : b5 ≤ 170) (h6 : b6 ≤ 170) (h7 : b7 ≤ 170) :
    (num8 b0 b1 b2 b3 b4 b5 b6 b7 / 4 &&& 3689348814741910323) + (num8 b0 b1 b2 b3 b4 b5 b6 b7 &&& 3689348814741910323) = num8 (p2 b0) (p2 b1) (p2 b2) (p2 b3) (p2 b4) (p2 b5) (p2 b6) (p2 b7) := by
  have hd : num8 b0 b1 b2 b3 b4 b5 b6 b7 / 4 = num8 (b0 / 4 + 64 * (b1 % 4)) (b1 / 4 + 64 * (b2 % 4)) (b2 / 4 + 64 * (b3 % 4)) (b3 / 4 + 64 * (b4 % 4)) (b4 / 4 + 64 * (b5 % 4)) (b5 / 4 + 64 * (b6 % 4)) (b6 / 4 + 64 * (b7 % 4)) (b7 / 4 + 64 * (0 % 4)) := by
    unfold num8; omega
  rw [hd, show (3689348814741910323 : Nat) = num8 51 51 51 51 51 51 51 51 from rfl, and_num8 51 _ _ _ _ _ _ _ _ (by omega) (by omega) (by omega) (by omega) (by omega) (by omega) (by omega) (by omega),
    and_num8 51 _ _ _ _ _ _ _ _ (by omega) (by omega) (by omega) (by omega) (by omega) (by omega) (by omega) (by omega), p2_and h0, p2_and h1, p2_and h2, p2_and h3, p2_and h4, p2_and h5, p2_and h6, p2_and h7, num8_add]
  rfl
theorem ones_step3 {b0 b1 b2 b3 b4 b5 b6 b7 : Nat} (h0 : b0 ≤ 68) (h1 : b1 ≤ 68) (h2 : b2 ≤ 68) (h3 : b3 ≤ 68) (h4 : b4 ≤ 68) (h5 : b5 ≤ 68) (h6 : b6 ≤ 68) (h7 : b7 ≤ 68)
    (k1 : b1 % 16 ≤ 4) (k2 : b2 % 16 ≤ 4) (k3 : b3 % 16 ≤ 4) (k4 : b4 % 16 ≤ 4) (k5 : b5 % 16 ≤ 4) (k6 : b6 % 16 ≤ 4) (k7 : b7 % 16 ≤ 4) :
    num8 b0 b1 b2 b3 b4 b5 b6 b7 / 16 + num8 b0 b1 b2 b3 b4 b5 b6 b7 < 18446744073709551616 ∧
    (num8 b0 b1 b2 b3 b4 b5 b6 b7 / 16 + num8 b0 b1 b2 b3 b4 b5 b6 b7) &&& 1085102592571150095 = num8 (p3 b0) (p3 b1) (p3 b2) (p3 b3) (p3 b4) (p3 b5) (p3 b6) (p3 b7) := by
  have hd : num8 b0 b1 b2 b3 b4 b5 b6 b7 / 16 = num8 (b0 / 16 + 16 * (b1 % 16)) (b1 / 16 + 16 * (b2 % 16)) (b2 / 16 + 16 * (b3 % 16)) (b3 / 16 + 16 * (b4 % 16)) (b4 / 16 + 16 * (b5 % 16)) (b5 / 16 + 16 * (b6 % 16)) (b6 / 16 + 16 * (b7 % 16)) (b7 / 16 + 16 * (0 % 16)) := by
    unfold num8; omega
  have e : ∀ b t : Nat, (b / 16 + 16 * t + b) &&& 15 = p3 b := fun b t => by
    rw [show (15 : Nat) = 2 ^ 4 - 1 from rfl, Nat.and_two_pow_sub_one_eq_mod]
    unfold p3; omega
  rw [hd, num8_add]
  refine ⟨num8_lt (by omega) (by omega) (by omega) (by omega) (by omega) (by omega) (by omega) (by omega), ?_⟩
  rw [show (1085102592571150095 : Nat) = num8 15 15 15 15 15 15 15 15 from rfl, and_num8 15 _ _ _ _ _ _ _ _ (by omega) (by omega) (by omega) (by omega) (by omega) (by omega) (by omega) (by omega), e, e, e, e, e, e, e, e]
theorem ones_step4 {b0 b1 b2 b3 b4 b5 b6 b7 : Nat} (h0 : b0 ≤ 8) (h1 : b1 ≤ 8) (h2 : b2 ≤ 8) (h3 : b3 ≤ 8) (h4 : b4 ≤ 8) (h5 : b5 ≤ 8) (h6 : b6 ≤ 8) (h7 : b7 ≤ 8) :
    ∃ y z, num8 b0 b1 b2 b3 b4 b5 b6 b7 + num8 b0 b1 b2 b3 b4 b5 b6 b7 / 256 = y ∧ y < 18446744073709551616 ∧ y + y / 65536 = z ∧ z < 18446744073709551616 ∧ z + z / 4294967296 < 9223372036854775808 ∧
      (z + z / 4294967296) &&& 127 = b0 + b1 + b2 + b3 + b4 + b5 + b6 + b7 := by
  have e1 : num8 b0 b1 b2 b3 b4 b5 b6 b7 / 256 = num8 b1 b2 b3 b4 b5 b6 b7 0 := by unfold num8; omega
  have e2 : num8 (b0 + b1) (b1 + b2) (b2 + b3) (b3 + b4) (b4 + b5) (b5 + b6) (b6 + b7) (b7 + 0) / 65536 = num8 (b2 + b3) (b3 + b4) (b4 + b5) (b5 + b6) (b6 + b7) (b7 + 0) 0 0 := by unfold num8; omega
  have e3 : num8 (b0 + b1 + (b2 + b3)) (b1 + b2 + (b3 + b4)) (b2 + b3 + (b4 + b5)) (b3 + b4 + (b5 + b6)) (b4 + b5 + (b6 + b7)) (b5 + b6 + (b7 + 0)) (b6 + b7 + 0) (b7 + 0 + 0) / 4294967296 = num8 (b4 + b5 + (b6 + b7)) (b5 + b6 + (b7 + 0)) (b6 + b7 + 0) (b7 + 0 + 0) 0 0 0 0 := by unfold num8; omega
  refine ⟨_, _, rfl, ?_, rfl, ?_, ?_, ?_⟩
  · rw [e1, num8_add]; exact num8_lt (by omega) (by omega) (by omega) (by omega) (by omega) (by omega) (by omega) (by omega)
  · rw [e1, num8_add, e2, num8_add]; exact num8_lt (by omega) (by omega) (by omega) (by omega) (by omega) (by omega) (by omega) (by omega)
  · rw [e1, num8_add, e2, num8_add, e3, num8_add]; unfold num8; omega
  · rw [e1, num8_add, e2, num8_add, e3, num8_add, show (127 : Nat) = 2 ^ 7 - 1 from rfl, Nat.and_two_pow_sub_one_eq_mod]; unfold num8; omega

/-- What the library's steps come to: seven numbers, one a step. -/
theorem ones_steps (x : Nat) (hx : x < 18446744073709551616) : ∃ x1 x2 x3 x4 x5 : Nat,
    (x / 2 &&& 6148914691236517205) + (x &&& 6148914691236517205) = x1 ∧ x1 < 18446744073709551616 ∧
    (x1 / 4 &&& 3689348814741910323) + (x1 &&& 3689348814741910323) = x2 ∧ x2 < 18446744073709551616 ∧
    x2 / 16 + x2 < 18446744073709551616 ∧ (x2 / 16 + x2) &&& 1085102592571150095 = x3 ∧
    x3 + x3 / 256 = x4 ∧ x4 < 18446744073709551616 ∧ x4 + x4 / 65536 = x5 ∧ x5 < 18446744073709551616 ∧
    x5 + x5 / 4294967296 < 9223372036854775808 ∧ (x5 + x5 / 4294967296) &&& 127 = ones x := by
  obtain ⟨b0, b1, b2, b3, b4, b5, b6, b7, rfl, h0, h1, h2, h3, h4, h5, h6, h7⟩ := num8_of x hx
  have q : ∀ b, b < 256 → p3 (p2 (p1 b)) ≤ 8 := fun b hb => by rw [(one3 ⟨b, hb⟩).2.2]; exact cnt_le _ _
  have r : ∀ b, b < 256 → p2 (p1 b) ≤ 68 := fun b hb => (one3 ⟨b, hb⟩).1
  have s : ∀ b, b < 256 → p2 (p1 b) % 16 ≤ 4 := fun b hb => (one3 ⟨b, hb⟩).2.1
  have t : ∀ b, b < 256 → p3 (p2 (p1 b)) = cnt b.testBit 8 := fun b hb => (one3 ⟨b, hb⟩).2.2
  have g := fun b (hb : b < 256) => Nat.lt_of_le_of_lt (p1_le hb) (show 170 < 256 by omega)
  have g2 := fun b (hb : b < 256) => Nat.lt_of_le_of_lt (r b hb) (show 68 < 256 by omega)
  obtain ⟨u1, u2⟩ := ones_step3 (r _ h0) (r _ h1) (r _ h2) (r _ h3) (r _ h4) (r _ h5) (r _ h6) (r _ h7) (s _ h1) (s _ h2) (s _ h3) (s _ h4) (s _ h5) (s _ h6) (s _ h7)
  obtain ⟨y, z, v1, v2, v3, v4, v5, v6⟩ := ones_step4 (q _ h0) (q _ h1) (q _ h2) (q _ h3) (q _ h4) (q _ h5) (q _ h6) (q _ h7)
  refine ⟨_, _, _, y, z, ones_step1 h0 h1 h2 h3 h4 h5 h6 h7, num8_lt (g _ h0) (g _ h1) (g _ h2) (g _ h3) (g _ h4) (g _ h5) (g _ h6) (g _ h7), ones_step2 (p1_le h0) (p1_le h1) (p1_le h2) (p1_le h3) (p1_le h4) (p1_le h5) (p1_le h6) (p1_le h7),
    num8_lt (g2 _ h0) (g2 _ h1) (g2 _ h2) (g2 _ h3) (g2 _ h4) (g2 _ h5) (g2 _ h6) (g2 _ h7), u1, u2, v1, v2, v3, v4, v5, ?_⟩
  rw [v6, num8_testBit _ _ _ _ _ _ _ _ h0 h1 h2 h3 h4 h5 h6, t _ h0, t _ h1, t _ h2, t _ h3, t _ h4, t _ h5, t _ h6, t _ h7]
end Go.Proofs.YthiijnanfiddpaaDoor

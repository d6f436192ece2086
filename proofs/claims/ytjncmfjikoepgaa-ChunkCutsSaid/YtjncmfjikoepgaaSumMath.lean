/-
  Plain mathematics of check sums: the step of the word as an operation on 32 bits, that it is linear and loses nothing; no program, no condition.
-/
import Derived.Test.YtjncmfjikoepgaaBytes
namespace Go.Proofs.Ytjncmfjikoepgaa
open Go.RowKit

/-- What the word is turned by when a 1 falls out of it. -/
def turner : BitVec 32 := 3988292384#32
def stp (w : BitVec 32) : BitVec 32 := (w >>> 1) ^^^ (if w.getLsbD 0 then turner else 0#32)
def stps : Nat → BitVec 32 → BitVec 32
  | 0, w => w
  | k + 1, w => stp (stps k w)
/-- A byte as a word. -/
def bw (x : UInt8) : BitVec 32 := BitVec.ofNat 32 x.toNat
def byt (w : BitVec 32) (x : UInt8) : BitVec 32 := stps 8 (w ^^^ bw x)
def wrd (w : BitVec 32) (l : List UInt8) : BitVec 32 := l.foldl byt w
/-- The sum of bytes that have the sum s, and l behind them. -/
def crc (s : BitVec 32) (l : List UInt8) : BitVec 32 := ~~~(wrd (~~~s) l)

theorem wrd_append (w : BitVec 32) (l m : List UInt8) : wrd w (l ++ m) = wrd (wrd w l) m := by simp [wrd]
theorem crc_append (s : BitVec 32) (l m : List UInt8) : crc s (l ++ m) = crc (crc s l) m := by simp [crc, wrd_append]
theorem wrd_nil (w : BitVec 32) : wrd w [] = w := rfl
theorem crc_nil (s : BitVec 32) : crc s [] = s := by simp [crc, wrd_nil]
theorem wrd_cons (w : BitVec 32) (x : UInt8) (l : List UInt8) : wrd w (x :: l) = wrd (byt w x) l := rfl
theorem wrd_take_succ (w : BitVec 32) (l : List UInt8) {k : Nat} {x : UInt8} (h : l[k]? = some x) : wrd w (l.take (k + 1)) = byt (wrd w (l.take k)) x := by
  rw [List.take_add_one, h]
  simp [wrd]

theorem stp_lin (a b : BitVec 32) : stp (a ^^^ b) = stp a ^^^ stp b := by
  unfold stp
  rw [BitVec.ushiftRight_xor_distrib, BitVec.getLsbD_xor]
  cases a.getLsbD 0 <;> cases b.getLsbD 0 <;> simp <;> ac_nf
  rw [← BitVec.xor_assoc, ← BitVec.xor_assoc]
  congr 1
  simp
theorem stps_lin (k : Nat) (a b : BitVec 32) : stps k (a ^^^ b) = stps k a ^^^ stps k b := by
  induction k with
  | zero => rfl
  | succ k ih => simp only [stps, ih, stp_lin]
theorem bw_lin (x y : UInt8) : bw (x ^^^ y) = bw x ^^^ bw y := by
  apply BitVec.eq_of_toNat_eq
  simp only [bw, BitVec.toNat_ofNat, BitVec.toNat_xor, UInt8.toNat_xor]
  have h1 := x.toNat_lt
  have h2 := y.toNat_lt
  have h3 : x.toNat ^^^ y.toNat < 2 ^ 8 := Nat.xor_lt_two_pow h1 h2
  rw [Nat.mod_eq_of_lt (by omega), Nat.mod_eq_of_lt (by omega), Nat.mod_eq_of_lt (by omega)]
theorem byt_lin (a b : BitVec 32) (x y : UInt8) : byt (a ^^^ b) (x ^^^ y) = byt a x ^^^ byt b y := by
  unfold byt
  rw [← stps_lin, bw_lin]
  congr 1
  ac_nf
theorem byt_turn (a : BitVec 32) (x y : UInt8) : byt a (x ^^^ y) = byt a x ^^^ stps 8 (bw y) := by
  unfold byt
  rw [← stps_lin, bw_lin, BitVec.xor_assoc]
theorem wrd_lin (l m : List UInt8) (h : l.length = m.length) (a b : BitVec 32) : wrd (a ^^^ b) (List.zipWith (· ^^^ ·) l m) = wrd a l ^^^ wrd b m := by
  induction l generalizing m a b with
  | nil => cases m with | nil => rfl | cons _ _ => cases h
  | cons x l ih => cases m with
    | nil => cases h
    | cons y m =>
      simp only [List.zipWith_cons_cons, wrd_cons, byt_lin]
      exact ih m (by simpa using h) _ _

theorem turner_top : turner[31] = true := by decide
theorem stp_zero {w : BitVec 32} (h : stp w = 0#32) : w = 0#32 := by
  have h0 : w.getLsbD 0 = false := by
    cases hb : w.getLsbD 0 with
    | false => rfl
    | true =>
      have := congrArg (fun v : BitVec 32 => v.getLsbD 31) h
      simp [stp, hb, turner_top] at this
  have h1 : w >>> 1 = 0#32 := by
    have := h
    simp only [stp, h0] at this
    simpa using this
  apply BitVec.eq_of_getLsbD_eq
  intro i hi
  cases i with
  | zero => rw [h0]; rfl
  | succ i =>
    have := congrArg (fun v : BitVec 32 => v.getLsbD i) h1
    simpa [Nat.add_comm] using this
theorem stp_inj {a b : BitVec 32} (h : stp a = stp b) : a = b := by
  have h1 : stp (a ^^^ b) = 0#32 := by rw [stp_lin, h, BitVec.xor_self]
  have h2 := stp_zero h1
  have : (a ^^^ b) ^^^ b = b := by rw [h2, BitVec.zero_xor]
  rwa [BitVec.xor_assoc, BitVec.xor_self, BitVec.xor_zero] at this
theorem stps_inj {k : Nat} {a b : BitVec 32} (h : stps k a = stps k b) : a = b := by
  induction k with
  | zero => exact h
  | succ k ih => exact ih (stp_inj h)
theorem xor_cancel {a b c : BitVec 32} (h : a ^^^ c = b ^^^ c) : a = b := by
  have := congrArg (· ^^^ c) h
  simpa [BitVec.xor_assoc] using this
theorem xor_cancel' {a b c : BitVec 32} (h : c ^^^ a = c ^^^ b) : a = b := by
  rw [BitVec.xor_comm c a, BitVec.xor_comm c b] at h
  exact xor_cancel h
theorem byt_inj {a b : BitVec 32} {x : UInt8} (h : byt a x = byt b x) : a = b := xor_cancel (stps_inj h)
theorem wrd_inj {l : List UInt8} {a b : BitVec 32} (h : wrd a l = wrd b l) : a = b := by
  induction l generalizing a b with
  | nil => exact h
  | cons x l ih => exact byt_inj (ih h)
theorem not_inj {a b : BitVec 32} (h : ~~~a = ~~~b) : a = b := by
  have := congrArg (fun v : BitVec 32 => ~~~v) h
  simpa using this

theorem one_far_fin : ∀ x : Fin 256, x ≠ 0 → 256 ≤ (stps 8 (BitVec.ofNat 32 x.val)).toNat ∧ (stps 8 (BitVec.ofNat 32 x.val)).toNat % 16777216 ≠ 0 := by decide +kernel
theorem one_far {x : UInt8} (h : x ≠ 0) : 256 ≤ (stps 8 (bw x)).toNat ∧ (stps 8 (bw x)).toNat % 16777216 ≠ 0 := by
  have := one_far_fin x.toFin (fun hx => h (UInt8.toFin_inj.1 hx))
  exact this
theorem bw_toNat (x : UInt8) : (bw x).toNat = x.toNat := by
  have := x.toNat_lt
  simp only [bw, BitVec.toNat_ofNat]
  omega

theorem lsb_nat (v : BitVec 32) : v.getLsbD 0 = decide (v.toNat % 2 = 1) := by
  rw [BitVec.getLsbD, Nat.testBit_zero]
theorem stp_one {v : BitVec 32} (h : v.toNat % 2 = 1) : (stp v).toNat = v.toNat / 2 ^^^ 3988292384 := by
  unfold stp
  rw [lsb_nat, h, BitVec.toNat_xor, BitVec.toNat_ushiftRight, Nat.shiftRight_eq_div_pow]
  rfl
theorem stp_none {v : BitVec 32} (h : v.toNat % 2 = 0) : (stp v).toNat = v.toNat / 2 := by
  unfold stp
  rw [lsb_nat, h, BitVec.toNat_xor, BitVec.toNat_ushiftRight, Nat.shiftRight_eq_div_pow]
  simp
theorem stp_mul (v : BitVec 32) : (stp v).toNat = v.toNat / 2 ^^^ 3988292384 * (v.toNat % 2) := by
  rcases Nat.mod_two_eq_zero_or_one v.toNat with h | h
  · rw [stp_none h, h]; simp
  · rw [stp_one h, h]
end Go.Proofs.Ytjncmfjikoepgaa

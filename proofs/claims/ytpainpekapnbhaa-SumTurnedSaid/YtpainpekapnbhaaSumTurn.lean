/-
  Plain mathematics: sealed bytes of which one byte or two neighbours are turned are not sealed; no program.
-/
import Derived.Test.YtpainpekapnbhaaSumC
namespace Go.Proofs.Ytpainpekapnbhaa
open Go.RowKit

theorem xor_same {x o : UInt8} (h : x = x ^^^ o) : o = 0 := by
  have := congrArg (fun v => x ^^^ v) h
  simp only [← UInt8.xor_assoc, UInt8.xor_self, UInt8.zero_xor] at this
  exact this.symm
theorem ofNat_inj {a b : Nat} (h : UInt8.ofNat a = UInt8.ofNat b) : a % 256 = b % 256 := by
  have := congrArg UInt8.toNat h
  simpa using this
theorem be4_inj {a b : Nat} (ha : a < 4294967296) (hb : b < 4294967296) (h : be 4 a = be 4 b) : a = b := by
  rw [be4, be4] at h
  simp only [List.cons.injEq, and_true] at h
  obtain ⟨h1, h2, h3, h4⟩ := h
  have := ofNat_inj h1
  have := ofNat_inj h2
  have := ofNat_inj h3
  have := ofNat_inj h4
  omega
theorem sum_inj {a b : BitVec 32} (h : be 4 a.toNat = be 4 b.toNat) : a = b := BitVec.eq_of_toNat_eq (be4_inj a.isLt b.isLt h)
theorem sumOf_eq {l m : List UInt8} (h : sumOf l = sumOf m) : wrd (~~~0#32) l = wrd (~~~0#32) m := not_inj h

theorem bw_zero {x : UInt8} (h : bw x = 0#32) : x = 0 := by
  have := congrArg BitVec.toNat h
  rw [bw_toNat] at this
  exact UInt8.toNat_inj.1 this
theorem stps_zero (k : Nat) : stps k 0#32 = 0#32 := by
  induction k with
  | zero => rfl
  | succ k ih => simp only [stps, ih]; rfl
theorem bw_z : bw 0 = 0#32 := rfl

theorem byt_in (a d : BitVec 32) (y : UInt8) : byt (a ^^^ d) y = byt a y ^^^ stps 8 d := by
  unfold byt
  rw [← stps_lin]
  congr 1
  ac_rfl

/-- Two neighbours among the bytes themselves. -/
theorem two_in {p q : List UInt8} {x y o t : UInt8} (h : sumOf (p ++ (x ^^^ o) :: (y ^^^ t) :: q) = sumOf (p ++ x :: y :: q)) : o = 0 ∧ t = 0 := by
  have h := sumOf_eq h
  rw [wrd_append, wrd_append, wrd_cons, wrd_cons, wrd_cons, wrd_cons] at h
  have h := wrd_inj h
  rw [byt_turn _ x o, byt_turn _ y t] at h
  generalize wrd (~~~0#32) p = u at h
  rw [byt_in, BitVec.xor_assoc] at h
  have h2 : stps 8 (stps 8 (bw o)) ^^^ stps 8 (bw t) = 0#32 := by
    refine xor_cancel' (c := byt (byt u x) y) ?_
    rw [h, BitVec.xor_zero]
  rw [← stps_lin] at h2
  have h3 : stps 8 (bw o) ^^^ bw t = 0#32 := stps_inj (k := 8) (by rw [h2, stps_zero])
  have h4 : stps 8 (bw o) = bw t := by
    have := congrArg (· ^^^ bw t) h3
    simpa [BitVec.xor_assoc] using this
  have ho : o = 0 := by
    rcases Classical.em (o = 0) with h | h
    · exact h
    · have h5 := (one_far h).1
      rw [h4, bw_toNat] at h5
      have := t.toNat_lt
      omega
  subst ho
  refine ⟨rfl, bw_zero ?_⟩
  rw [← h4, bw_z, stps_zero]

/-- The last byte, and the first of the sum. -/
theorem two_over {p : List UInt8} {x o t z : UInt8} {r : List UInt8} (hz : be 4 (sumOf (p ++ [x])).toNat = z :: r) (h : be 4 (sumOf (p ++ [x ^^^ o])).toNat = (z ^^^ t) :: r) : o = 0 ∧ t = 0 := by
  have e : sumOf (p ++ [x ^^^ o]) = sumOf (p ++ [x]) ^^^ stps 8 (bw o) := by
    unfold sumOf crc
    rw [wrd_append, wrd_append, wrd_cons, wrd_nil, wrd_cons, wrd_nil, byt_turn]
    rw [← BitVec.allOnes_xor, ← BitVec.allOnes_xor (x := byt _ x), BitVec.xor_assoc]
  rw [e] at h
  generalize sumOf (p ++ [x]) = S at *
  rw [be4] at h hz
  simp only [List.cons.injEq] at h hz
  obtain ⟨z1, z2⟩ := hz
  obtain ⟨h1, h2⟩ := h
  rw [← z2] at h2
  simp only [List.cons.injEq, and_true] at h2
  obtain ⟨h2, h3, h4⟩ := h2
  have h2 := ofNat_inj h2
  have h3 := ofNat_inj h3
  have h4 := ofNat_inj h4
  have hm : (S ^^^ stps 8 (bw o)).toNat % 16777216 = S.toNat % 16777216 := by omega
  have hd : (stps 8 (bw o)).toNat % 16777216 = 0 := by
    rw [BitVec.toNat_xor, show 16777216 = 2 ^ 24 from rfl, Nat.xor_mod_two_pow] at hm
    have := congrArg (fun v => S.toNat % 2 ^ 24 ^^^ v) hm
    simpa [← Nat.xor_assoc] using this
  have ho : o = 0 := by
    rcases Classical.em (o = 0) with h | h
    · exact h
    · exact absurd hd (one_far h).2
  subst ho
  rw [bw_z, stps_zero, BitVec.xor_zero, z1] at h1
  exact ⟨rfl, xor_same h1⟩

theorem split_two {b : List UInt8} {i : Nat} {x y : UInt8} (hx : b[i]? = some x) (hy : b[i + 1]? = some y) : ∃ p q, b = p ++ x :: y :: q ∧ p.length = i := by
  obtain ⟨h1, e1⟩ := List.getElem?_eq_some_iff.1 hx
  obtain ⟨h2, e2⟩ := List.getElem?_eq_some_iff.1 hy
  refine ⟨b.take i, b.drop (i + 2), ?_, by rw [List.length_take]; omega⟩
  rw [← e1, ← e2, ← List.drop_eq_getElem_cons, ← List.drop_eq_getElem_cons, List.take_append_drop]

/-- Two neighbours of sealed bytes are turned. -/
theorem turned_two {b : List UInt8} {i : Nat} {x y o t : UInt8} (hx : (sealOf b)[i]? = some x) (hy : (sealOf b)[i + 1]? = some y)
    (h : sealOf ((((sealOf b).set i (x ^^^ o)).set (i + 1) (y ^^^ t)).take b.length) = ((sealOf b).set i (x ^^^ o)).set (i + 1) (y ^^^ t)) : o = 0 ∧ t = 0 := by
  have hlen : i + 1 < (sealOf b).length := (List.getElem?_eq_some_iff.1 hy).1
  rcases Nat.lt_or_ge i b.length with hi | hi
  · rcases Nat.lt_or_ge (i + 1) b.length with hi2 | hi2
    · have hx' : b[i]? = some x := by rw [← hx]; unfold sealOf; rw [List.getElem?_append_left hi]
      have hy' : b[i + 1]? = some y := by rw [← hy]; unfold sealOf; rw [List.getElem?_append_left hi2]
      obtain ⟨p, q, rfl, rfl⟩ := split_two hx' hy'
      have e : ((sealOf (p ++ x :: y :: q)).set p.length (x ^^^ o)).set (p.length + 1) (y ^^^ t) = (p ++ (x ^^^ o) :: (y ^^^ t) :: q) ++ be 4 (sumOf (p ++ x :: y :: q)).toNat := by
        unfold sealOf
        simp
      rw [e] at h
      have hl : (p ++ x :: y :: q).length = (p ++ (x ^^^ o) :: (y ^^^ t) :: q).length := by simp
      rw [hl, List.take_left] at h
      exact two_in (sum_inj (List.append_cancel_left h))
    · have hb : b.length = i + 1 := by omega
      have hx' : b[i]? = some x := by rw [← hx]; unfold sealOf; rw [List.getElem?_append_left hi]
      obtain ⟨p, rfl, rfl⟩ : ∃ p, b = p ++ [x] ∧ p.length = i := by
        obtain ⟨h1, e1⟩ := List.getElem?_eq_some_iff.1 hx'
        refine ⟨b.take i, ?_, by rw [List.length_take]; omega⟩
        rw [← e1]
        conv => lhs; rw [← List.take_append_drop i b]
        rw [List.drop_eq_getElem_cons h1, List.drop_eq_nil_of_le (by omega)]
      have h4 := be_length 4 (sumOf (p ++ [x])).toNat
      obtain ⟨z, r, hz⟩ : ∃ z r, be 4 (sumOf (p ++ [x])).toNat = z :: r := by
        cases hq : be 4 (sumOf (p ++ [x])).toNat with
        | nil => rw [hq] at h4; cases h4
        | cons z r => exact ⟨z, r, rfl⟩
      have hyz : y = z := by
        have := hy
        unfold sealOf at this
        rw [hz] at this
        simpa using this.symm
      subst hyz
      have e : ((sealOf (p ++ [x])).set p.length (x ^^^ o)).set (p.length + 1) (y ^^^ t) = (p ++ [x ^^^ o]) ++ (y ^^^ t) :: r := by
        unfold sealOf
        rw [hz]
        simp
      rw [e] at h
      have hl : (p ++ [x]).length = (p ++ [x ^^^ o]).length := by simp
      rw [hl, List.take_left] at h
      exact two_over hz (List.append_cancel_left h)
  · have hs : (((sealOf b).set i (x ^^^ o)).set (i + 1) (y ^^^ t)).take b.length = b := by
      rw [List.take_set, List.take_set]
      have : (sealOf b).take b.length = b := by unfold sealOf; simp
      rw [this, List.set_eq_of_length_le hi, List.set_eq_of_length_le (by omega)]
    rw [hs] at h
    have h1 := congrArg (fun l => l[i]?) h
    have h2 := congrArg (fun l => l[i + 1]?) h
    simp only [hx] at h1
    simp only [hy] at h2
    rw [List.getElem?_set_ne (by omega), List.getElem?_set_self (by omega)] at h1
    rw [List.getElem?_set_self (by rw [List.length_set]; omega)] at h2
    injection h1 with h1
    injection h2 with h2
    exact ⟨xor_same h1, xor_same h2⟩

/-- The last byte of sealed bytes is turned. -/
theorem turned_last {b : List UInt8} {i : Nat} {x o : UInt8} (hi : b.length ≤ i) (hx : (sealOf b)[i]? = some x)
    (h : sealOf (((sealOf b).set i (x ^^^ o)).take b.length) = (sealOf b).set i (x ^^^ o)) : o = 0 := by
  have hlen : i < (sealOf b).length := (List.getElem?_eq_some_iff.1 hx).1
  have hs : ((sealOf b).set i (x ^^^ o)).take b.length = b := by
    rw [List.take_set]
    have : (sealOf b).take b.length = b := by unfold sealOf; simp
    rw [this, List.set_eq_of_length_le hi]
  rw [hs] at h
  have h1 := congrArg (fun l => l[i]?) h
  simp only [hx] at h1
  rw [List.getElem?_set_self hlen] at h1
  injection h1 with h1
  exact xor_same h1
/-- Nothing is turned. -/
theorem turned_none {b : List UInt8} {i : Nat} {x : UInt8} (hx : (sealOf b)[i]? = some x) : (sealOf b).set i (x ^^^ 0) = sealOf b := by
  obtain ⟨h, rfl⟩ := List.getElem?_eq_some_iff.1 hx
  rw [UInt8.xor_zero, List.set_getElem_self]
end Go.Proofs.Ytpainpekapnbhaa

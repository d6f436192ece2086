/-
  Pieces of which one is another: which text they make, and what its manifest is. Plain mathematics, no program.
-/
import Derived.Test.YtjncmfjikoepgaaChLawE
namespace Go.Proofs.Ytjncmfjikoepgaa
open Go.RowKit

theorem cat_fold (ps : List ByteArray) : ∀ m r, r ≤ m → ∃ R, (cat (ps.take m)).data.toList = (cat (ps.take r)).data.toList ++ R
  | 0, r, h => ⟨[], by rw [show r = 0 by omega, List.append_nil]⟩
  | m + 1, r, h => by
    by_cases he : r = m + 1
    · exact ⟨[], by rw [he, List.append_nil]⟩
    · obtain ⟨R, hR⟩ := cat_fold ps m r (by omega)
      cases hp : ps[m]? with
      | none =>
        have : ps.take (m + 1) = ps.take m := by rw [List.take_add_one, hp]; simp
        exact ⟨R, by rw [this, hR]⟩
      | some p => exact ⟨R ++ p.data.toList, by rw [cat_bytes hp, hR, List.append_assoc]⟩
/-- Pieces as long as those of a text of N bytes make such a text, and are its pieces. -/
theorem cat_len {ps : List ByteArray} {N : Nat} (hl : ps.length = cnt N) (hs : ∀ (r : Nat) (p : ByteArray), ps[r]? = some p → p.size = pln N r) : ∀ k, k ≤ cnt N → (cat (ps.take k)).data.toList.length = min (k * 80) N
  | 0, _ => by simp [cat_nil]
  | k + 1, h => by
    have hk : k < ps.length := by omega
    have hp : ps[k]? = some ps[k] := List.getElem?_eq_getElem hk
    have h1 := cat_len hl hs k (by omega)
    have h2 := hs k _ hp
    have h3 := cnt_lt.1 (show k < cnt N by omega)
    rw [cat_bytes hp, List.length_append, h1, list_size, h2]
    unfold pln
    omega
theorem cat_all {ps : List ByteArray} {N : Nat} (hl : ps.length = cnt N) : ps.take (cnt N) = ps := List.take_of_length_le (by omega)
theorem cat_size {ps : List ByteArray} {N : Nat} (hl : ps.length = cnt N) (hs : ∀ (r : Nat) (p : ByteArray), ps[r]? = some p → p.size = pln N r) : (cat ps).size = N := by
  have h := cat_len hl hs (cnt N) (Nat.le_refl _)
  rw [cat_all hl, list_size] at h
  rw [h]
  unfold cnt
  omega
theorem pce_cat {ps : List ByteArray} {N : Nat} (hl : ps.length = cnt N) (hs : ∀ (r : Nat) (p : ByteArray), ps[r]? = some p → p.size = pln N r) {r : Nat} {p : ByteArray} (hp : ps[r]? = some p) : pce (cat ps) r = p := by
  have hr : r < cnt N := by
    have := (List.getElem?_eq_some_iff.1 hp).1
    omega
  have h80 := cnt_lt.1 hr
  apply ByteArray.ext
  apply Array.ext'
  obtain ⟨R, hR⟩ := cat_fold ps (cnt N) (r + 1) (by omega)
  rw [cat_all hl, cat_bytes hp] at hR
  have h1 := cat_len hl hs r (by omega)
  have h2 := hs r p hp
  have h3 := cat_len hl hs (cnt N) (Nat.le_refl _)
  rw [cat_all hl] at h3
  have h4 := congrArg List.length hR
  rw [h3, List.length_append, List.length_append, h1, list_size, h2] at h4
  rw [pce_list, hR, List.append_assoc, List.drop_left' (by rw [h1]; omega)]
  unfold pln at h2 h4
  by_cases hc : 80 ≤ N - r * 80
  · rw [List.take_left' (by rw [list_size, h2]; omega)]
  · have : R = [] := List.eq_nil_of_length_eq_zero (by unfold cnt at h4; omega)
    rw [this, List.append_nil, List.take_of_length_le (by rw [list_size, h2]; omega)]
/-- A text's pieces, of which the a-th is another one. -/
def oth (s p : ByteArray) (a k : Nat) : List ByteArray := (pcs s k).set a p
theorem oth_length (s p : ByteArray) (a k : Nat) : (oth s p a k).length = k := by rw [oth, List.length_set, pcs_length]
theorem oth_succ_ne {s p : ByteArray} {a k : Nat} (h : k ≠ a) : oth s p a (k + 1) = oth s p a k ++ [pce s k] := by
  unfold oth
  rw [pcs_succ]
  by_cases hk : a < k
  · rw [List.set_append_left _ _ (by rw [pcs_length]; exact hk)]
  · rw [List.set_eq_of_length_le (by rw [List.length_append, pcs_length, List.length_singleton]; omega), List.set_eq_of_length_le (by rw [pcs_length]; omega)]
theorem oth_succ_eq (s p : ByteArray) (a : Nat) : oth s p a (a + 1) = oth s p a a ++ [p] := by
  unfold oth
  rw [pcs_succ, List.set_append_right _ _ (by rw [pcs_length]; exact Nat.le_refl _), pcs_length, Nat.sub_self, List.set_cons_zero, List.set_eq_of_length_le (by rw [pcs_length]; exact Nat.le_refl _)]
theorem oth_get {s p : ByteArray} {a k r : Nat} (hr : r < k) : (oth s p a k)[r]? = some (if r = a then p else pce s r) := by
  unfold oth
  rw [List.getElem?_set, pcs_length]
  by_cases h : a = r
  · subst h
    rw [if_pos rfl, if_pos hr, if_pos rfl]
  · rw [if_neg h, if_neg (fun e => h e.symm)]
    simp [pcs, hr]
/-- The other piece is as long as the chunk, and has its sum. -/
def SameM (s p : ByteArray) (a : Nat) : Prop := (pce s a).size = p.size ∧ smv (pce s a) = smv p
instance (s p : ByteArray) (a : Nat) : Decidable (SameM s p a) := by unfold SameM; infer_instance
theorem oth_ok {s p : ByteArray} {a : Nat} (hs : s.size ≤ 65536) (ha : a < cnt s.size) (h : SameM s p a) : JoinOk s.size (sms s) (oth s p a (cnt s.size)) :=
  ⟨right_sms hs, by rw [oth_length, sms_length], fun r q hq => by
    have hr : r < cnt s.size := by
      have := (List.getElem?_eq_some_iff.1 hq).1
      rwa [oth_length] at this
    rw [oth_get hr] at hq
    injection hq with hq
    rw [Int.toNat_natCast]
    have hf := fit_pce hr
    by_cases he : r = a
    · rw [if_pos he] at hq
      subst he hq
      refine ⟨hf.1, ?_, ?_⟩
      · rw [← h.1]
        exact hf.2.1
      · rw [← h.2]
        exact hf.2.2
    · rw [if_neg he] at hq
      rw [← hq]
      exact hf⟩
theorem oth_no {s p : ByteArray} {a : Nat} (ha : a < cnt s.size) (h : ¬ SameM s p a) : ¬ JoinOk s.size (sms s) (oth s p a (cnt s.size)) := fun hj => h (by
  have h1 := hj.2.2 a p (by rw [oth_get ha, if_pos rfl])
  rw [Int.toNat_natCast] at h1
  have h2 := fit_pce ha
  refine ⟨?_, ?_⟩
  · rw [h1.2.1, h2.2.1]
  · have h3 := h1.2.2
    rw [h2.2.2] at h3
    injection h3 with h3
    omega)
theorem oth_sizes {s p : ByteArray} {a : Nat} (h : SameM s p a) : ∀ (r : Nat) (q : ByteArray), (oth s p a (cnt s.size))[r]? = some q → q.size = pln s.size r := fun r q hq => by
  have hr : r < cnt s.size := by
    have := (List.getElem?_eq_some_iff.1 hq).1
    rwa [oth_length] at this
  rw [oth_get hr] at hq
  injection hq with hq
  by_cases he : r = a
  · rw [if_pos he] at hq
    rw [← hq, ← h.1, ← he, pce_size hr]
  · rw [if_neg he] at hq
    rw [← hq, pce_size hr]
theorem oth_size {s p : ByteArray} {a : Nat} (h : SameM s p a) : (cat (oth s p a (cnt s.size))).size = s.size := cat_size (oth_length _ _ _ _) (oth_sizes h)
theorem oth_sms {s p : ByteArray} {a : Nat} (h : SameM s p a) : sms (cat (oth s p a (cnt s.size))) = sms s := by
  unfold sms
  rw [oth_size h]
  unfold smsTo
  apply List.map_congr_left
  intro r hr
  have hr2 : r < cnt s.size := List.mem_range.1 hr
  rw [pce_cat (oth_length _ _ _ _) (oth_sizes h) (oth_get hr2)]
  by_cases he : r = a
  · rw [if_pos he, he, h.2]
  · rw [if_neg he]
end Go.Proofs.Ytjncmfjikoepgaa

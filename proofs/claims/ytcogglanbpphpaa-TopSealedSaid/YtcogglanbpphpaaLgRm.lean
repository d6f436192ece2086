/-
  Plain mathematics of records in a ring: the pieces of a list of texts, one behind the other, and what is left of them. No program, no condition.
-/
import Derived.Test.YtcogglanbpphpaaLgRe
namespace Go.Proofs.Ytcogglanbpphpaa

/-- Piece i of a record. -/
def pc (ag nu : Nat) (t : List UInt8) (i : Nat) : Ct := ⟨2, ag, nu, i, t.length, (t.drop (36 * i)).take 36⟩
/-- All pieces of records, the first of which has that number. -/
def allp (ag : Nat) : Nat → List (List UInt8) → List Ct
  | _, [] => []
  | nu, t :: ts => (List.range (np t.length)).map (pc ag nu t) ++ allp ag (nu + 1) ts
/-- How many sectors the first m records have. -/
def off (L : List (List UInt8)) (m : Nat) : Nat := ((L.take m).map fun t => np t.length).sum
theorem off_zero (L : List (List UInt8)) : off L 0 = 0 := rfl
theorem off_succ {L : List (List UInt8)} {m : Nat} {t : List UInt8} (h : L[m]? = some t) : off L (m + 1) = off L m + np t.length := by
  rw [off, off, List.take_add_one, h]
  simp
theorem off_cons (t : List UInt8) (ts : List (List UInt8)) (m : Nat) : off (t :: ts) (m + 1) = np t.length + off ts m := by simp [off]
theorem off_mono (L : List (List UInt8)) {m k : Nat} (h : m ≤ k) : off L m ≤ off L k := by
  induction k with
  | zero =>
    obtain rfl : m = 0 := by omega
    exact Nat.le_refl _
  | succ k ih =>
    by_cases e : m = k + 1
    · subst e
      exact Nat.le_refl _
    · refine Nat.le_trans (ih (by omega)) ?_
      cases hx : L[k]? with
      | some t => rw [off_succ hx]; omega
      | none =>
        rw [off, off, List.take_add_one, hx]
        simp
theorem off_le {L : List (List UInt8)} {s : Nat} (h : ∀ t ∈ L, np t.length ≤ s) (m : Nat) : off L m ≤ s * m := by
  induction m with
  | zero => simp [off]
  | succ m ih =>
    cases hx : L[m]? with
    | some t =>
      rw [off_succ hx, Nat.mul_succ]
      have := h t (List.mem_of_getElem? hx)
      omega
    | none =>
      rw [off, List.take_add_one, hx]
      simp only [Option.toList_none, List.append_nil, Nat.mul_succ]
      have : off L m = ((L.take m).map fun t => np t.length).sum := rfl
      omega
theorem allp_len (ag : Nat) : ∀ (L : List (List UInt8)) (nu : Nat), (allp ag nu L).length = off L L.length
  | [], _ => rfl
  | t :: ts, nu => by
    rw [allp, List.length_append, List.length_map, List.length_range, allp_len ag ts (nu + 1), List.length_cons, off_cons]
theorem allp_at (ag : Nat) : ∀ (L : List (List UInt8)) (nu m i : Nat) (t : List UInt8), L[m]? = some t → i < np t.length → (allp ag nu L)[off L m + i]? = some (pc ag (nu + m) t i)
  | [], _, _, _, _, h, _ => by simp at h
  | u :: us, nu, 0, i, t, h, hi => by
    simp at h
    subst h
    rw [allp, off_zero, Nat.zero_add, List.getElem?_append_left (by simpa using hi)]
    simp [hi]
  | u :: us, nu, m + 1, i, t, h, hi => by
    simp at h
    have := allp_at ag us (nu + 1) m i t h hi
    rw [allp, off_cons, Nat.add_assoc, List.getElem?_append_right (by simp), List.length_map, List.length_range, Nat.add_sub_cancel_left, this]
    rw [show nu + 1 + m = nu + (m + 1) by omega]
/-- A text, in parts of 36 bytes. -/
theorem parts_take (t : List UInt8) (k : Nat) : ((List.range k).flatMap fun i => (t.drop (36 * i)).take 36) = t.take (36 * k) := by
  induction k with
  | zero => simp
  | succ k ih =>
    rw [List.range_succ, List.flatMap_append, ih, Nat.mul_succ, List.take_add]
    simp
theorem parts_all (t : List UInt8) : ((List.range (np t.length)).flatMap fun i => (t.drop (36 * i)).take 36) = t := by
  rw [parts_take, List.take_of_length_le]
  unfold np
  omega
/-- What lies in a ring: pieces of these records, each of which may be gone. -/
structure Ring (R : Nat → Ct) (n ag nu : Nat) (L : List (List UInt8)) : Prop where
  room : off L L.length < n
  has : ∀ q, q < n → R q = Ct.zero ∨ (allp ag nu L)[q]? = some (R q)
  pos : ∀ t ∈ L, 1 ≤ t.length
  len : ∀ t ∈ L, t.length ≤ 1024
theorem off_lt {R : Nat → Ct} {n ag nu : Nat} {L : List (List UInt8)} (h : Ring R n ag nu L) {m : Nat} (hm : m ≤ L.length) : off L m < n := Nat.lt_of_le_of_lt (off_mono L hm) h.room
/-- A place of a record has its piece, or nothing. -/
theorem Ring.at_ {R : Nat → Ct} {n ag nu : Nat} {L : List (List UInt8)} (h : Ring R n ag nu L) {m i : Nat} {t : List UInt8} (ht : L[m]? = some t) (hi : i < np t.length) :
    off L m + i < n ∧ (R (off L m + i) = Ct.zero ∨ R (off L m + i) = pc ag (nu + m) t i) := by
  have hm : m < L.length := (List.getElem?_eq_some_iff.1 ht).1
  have h1 : off L m + i < n := by
    have := off_lt h (m := m + 1) (by omega)
    rw [off_succ ht] at this
    omega
  refine ⟨h1, ?_⟩
  rcases h.has _ h1 with q | q
  · exact .inl q
  · rw [allp_at ag L nu m i t ht hi] at q
    exact .inr (by injection q with q; exact q.symm)
/-- Behind the last record there is nothing. -/
theorem Ring.end_ {R : Nat → Ct} {n ag nu : Nat} {L : List (List UInt8)} (h : Ring R n ag nu L) : R (off L L.length) = Ct.zero := by
  rcases h.has _ h.room with q | q
  · exact q
  · rw [List.getElem?_eq_none (by rw [allp_len]; omega)] at q
    cases q
theorem Ring.tx {R : Nat → Ct} {n ag nu : Nat} {L : List (List UInt8)} (h : Ring R n ag nu L) {q : Nat} (hq : q < n) : (R q).tx.length ≤ 36 := by
  rcases h.has q hq with e | e
  · rw [e]
    simp [Ct.zero]
  · have : ∀ (L : List (List UInt8)) (nu q : Nat) (c : Ct), (allp ag nu L)[q]? = some c → c.tx.length ≤ 36 := by
      intro L
      induction L with
      | nil => intro nu q c h; simp [allp] at h
      | cons t ts ih =>
        intro nu q c h
        rw [allp] at h
        by_cases hl : q < ((List.range (np t.length)).map (pc ag nu t)).length
        · rw [List.getElem?_append_left hl] at h
          obtain ⟨x, _, rfl⟩ := List.mem_map.1 (List.mem_of_getElem? h)
          simp [pc]
          omega
        · rw [List.getElem?_append_right (by omega)] at h
          exact ih _ _ _ h
    exact this L nu q _ e
/-- All pieces of record m are there. -/
def Full (R : Nat → Ct) (L : List (List UInt8)) (m : Nat) : Prop := ∀ t, L[m]? = some t → ∀ i, i < np t.length → R (off L m + i) ≠ Ct.zero
theorem pcOk_iff {R : Nat → Ct} {n ag nu : Nat} {L : List (List UInt8)} (h : Ring R n ag nu L) {m : Nat} {t : List UInt8} (ht : L[m]? = some t) {i : Nat} (hi : i < np t.length) :
    PcOk R n (off L m) ag (nu + m) t.length i ↔ R (off L m + i) ≠ Ct.zero := by
  obtain ⟨h1, h2⟩ := h.at_ ht hi
  rw [PcOk, Nat.mod_eq_of_lt h1]
  rcases h2 with e | e
  · rw [e]
    simp [Ct.zero]
  · rw [e]
    simp [pc, Ct.zero]
theorem rec_text {R : Nat → Ct} {n ag nu : Nat} {L : List (List UInt8)} (h : Ring R n ag nu L) {m : Nat} {t : List UInt8} (ht : L[m]? = some t) (hf : ∀ i, i < np t.length → PcOk R n (off L m) ag (nu + m) t.length i) : recT R n (off L m) (np t.length) = t := by
  have : recT R n (off L m) (np t.length) = (List.range (np t.length)).flatMap fun i => (t.drop (36 * i)).take 36 := by
    unfold recT
    rw [List.flatMap_def, List.flatMap_def]
    congr 1
    apply List.map_congr_left
    intro i hi
    have hi := List.mem_range.1 hi
    obtain ⟨h1, h2⟩ := h.at_ ht hi
    have h3 := (pcOk_iff h ht hi).1 (hf i hi)
    rcases h2 with e | e
    · exact absurd e h3
    · rw [Nat.mod_eq_of_lt h1, e]
      rfl
  rw [this, parts_all]
end Go.Proofs.Ytcogglanbpphpaa

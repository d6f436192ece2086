/-
  Which rows of free blocks are right, told block by block by a map of their words: plain mathematics, no program.
-/
import Derived.Test.YthiijnanfiddpaaDoorBudC
namespace Go.Proofs.YthiijnanfiddpaaDoor
open Go.RowKit

theorem twin_twin {r : Int} {b : Blk} (hr : r ≤ 8) (h : May r b) : twin (twin b) = b := by
  obtain ⟨x, o⟩ := b
  obtain ⟨k0, k1, k2, k3, k4⟩ := h
  simp only at *
  unfold twin
  simp only
  rcases ords k0 (by omega) with h | h | h | h | h | h | h | h | h <;> subst h <;> simp only [sz0, sz1, sz2, sz3, sz4, sz5, sz6, sz7, sz8] at * <;> split <;> simp only [sz0, sz1, sz2, sz3, sz4, sz5, sz6, sz7, sz8] <;> split <;> simp <;> omega

/-- b may come behind the row fs. -/
def Comes (r : Int) (fs : List Blk) (b : Blk) : Prop := May r b ∧ (∀ a ∈ fs, ¬ Meets b a) ∧ ∀ a, fs.getLast? = some a → mayFol a b = true
theorem mayFol_iff (a b : Blk) : mayFol a b = true ↔ a.1 < b.1 ∧ b ≠ twin a := by
  unfold mayFol
  rw [Bool.and_eq_true, decide_eq_true_iff, Bool.not_eq_true']
  constructor
  · rintro ⟨h1, h2⟩
    exact ⟨h1, fun e => by rw [(sameB_iff _ _).2 e] at h2; cases h2⟩
  · rintro ⟨h1, h2⟩
    exact ⟨h1, sameB_no h2⟩
theorem last_mem {l : List Blk} {a : Blk} (h : l.getLast? = some a) : a ∈ l := List.mem_of_getLast? h
theorem rise_last : ∀ {l : List Blk} {a b : Blk}, l.Pairwise (fun a b => a.1 < b.1) → l.getLast? = some a → b ∈ l → b = a ∨ b.1 < a.1 := by
  intro l a b h hl hb
  obtain ⟨l', rfl⟩ := List.getLast?_eq_some_iff.1 hl
  rw [List.pairwise_append] at h
  rcases List.mem_append.1 hb with e | e
  · exact .inr (h.2.2 b e a (by simp))
  · exact .inl (by simpa using e)
theorem right_snoc {r : Int} {fs : List Blk} {b : Blk} (h : Right r fs) : Right r (fs ++ [b]) ↔ Comes r fs b := by
  have hr8 := h.1.2
  constructor
  · intro k
    have hb : b ∈ fs ++ [b] := by simp
    have hp := k.2.2
    rw [List.pairwise_append] at hp
    have hA : ∀ a ∈ fs, Ahd r a b := fun a ha => hp.2.2 a ha b (by simp)
    refine ⟨k.2.1 b hb, fun a ha => (hA a ha).2.1, fun a ha => ?_⟩
    have hm := last_mem ha
    have hAh := hA a hm
    refine (mayFol_iff a b).2 ⟨hAh.1, fun e => ?_⟩
    have hMa := h.may hm
    by_cases hlt : a.2 < r
    · exact hAh.2.2 ⟨by rw [e, twin_ord]; exact hlt, by rw [e]; exact twin_twin hr8 hMa⟩
    · have hb2 : b.2 = a.2 := by rw [e, twin_ord]
      have hMb := k.2.1 b hb
      have e1 : a.2 = r := by have := hMa.2.1; omega
      have := hMa.2.2.1
      have h3 := hMb.2.2.2.1
      rw [hb2, e1] at h3
      have := hAh.1
      omega
  · rintro ⟨h1, h2, h3⟩
    refine ⟨h.1, fun c hc => ?_, ?_⟩
    · rcases List.mem_append.1 hc with e | e
      · exact h.2.1 c e
      · rw [show c = b by simpa using e]; exact h1
    · rw [List.pairwise_append]
      refine ⟨h.2.2, List.pairwise_singleton _ _, fun a ha c hc => ?_⟩
      rw [show c = b by simpa using hc]
      obtain ⟨z, hz⟩ : ∃ z, fs.getLast? = some z := by
        cases e : fs.getLast? with
        | none => rw [List.getLast?_eq_none_iff] at e; subst e; cases ha
        | some z => exact ⟨z, rfl⟩
      obtain ⟨f1, f2⟩ := (mayFol_iff z b).1 (h3 z hz)
      have hza := rise_last h.rise hz ha
      have hlt : a.1 < b.1 := by
        rcases hza with e | e
        · rw [e]; exact f1
        · omega
      refine ⟨hlt, h2 a ha, ?_⟩
      rintro ⟨hb, ht⟩
      rcases hza with e | e
      · subst e
        exact f2 (by rw [← ht]; exact (twin_twin hr8 h1).symm)
      · have hMa := h.may ha
        have hsz : a.2 = b.2 := by rw [← ht, twin_ord]
        have hp := sz_pos b.2
        have ha1 : b.1 = a.1 + sz b.2 := by
          have := congrArg Prod.fst ht
          unfold twin at this
          split at this <;> simp only at this <;> omega
        have hzp := sz_pos z.2
        have hmz : Meets z a := ⟨by rw [hsz]; omega, by omega⟩
        have := h.apart (last_mem hz) ha hmz
        rw [this] at e
        omega
theorem right_prefix {r : Int} {l : List Blk} (h : Right r l) (k : Nat) : Right r (l.take k) := h.sub (List.take_sublist k l)
theorem right_nil {r : Int} (h : 3 ≤ r ∧ r ≤ 8) : Right r [] := ⟨h, (fun _ h => by cases h), List.Pairwise.nil⟩

/-- The map m tells the words of these blocks. -/
def Mapped (r : Int) (fs : List Blk) (m : List Bool) : Prop := (m.length : Int) = sz r ∧ ∀ x : Nat, x < m.length → (isOn m x = true ↔ Cov fs (x : Int))
theorem mapped_nil (r : Int) : Mapped r [] (List.replicate (sz r).toNat false) := by
  have := sz_pos r
  refine ⟨by simp; omega, fun x hx => ?_⟩
  constructor
  · intro h
    have e : isOn (List.replicate (sz r).toNat false) x = false := by
      unfold isOn
      rw [List.getD_eq_getElem?_getD, List.getElem?_replicate]
      split <;> rfl
    rw [e] at h
    cases h
  · rintro ⟨b, hb, _⟩; cases hb
theorem cov_snoc (fs : List Blk) (b : Blk) (x : Int) : Cov (fs ++ [b]) x ↔ Cov fs x ∨ InB b x := by
  unfold Cov
  constructor
  · rintro ⟨c, hc, hx⟩
    rcases List.mem_append.1 hc with e | e
    · exact .inl ⟨c, e, hx⟩
    · rw [show c = b by simpa using e] at hx; exact .inr hx
  · rintro (⟨c, hc, hx⟩ | hx)
    · exact ⟨c, List.mem_append_left _ hc, hx⟩
    · exact ⟨b, by simp, hx⟩
theorem Mapped.put {r : Int} {fs : List Blk} {m : List Bool} {b : Blk} (h : Mapped r fs m) (hb : May r b) : putV m b.1 (sz b.2) true = putL m b.1.toNat (sz b.2).toNat true ∧ putE m b.1 (sz b.2) = 0 ∧ Mapped r (fs ++ [b]) (putV m b.1 (sz b.2) true) := by
  obtain ⟨h1, h2⟩ := h
  obtain ⟨k0, k1, k2, k3, k4⟩ := hb
  have hp := sz_pos b.2
  have hm : mayPut m b.1 (sz b.2) = true := decide_eq_true ⟨k2, by omega, by omega⟩
  have e1 : putV m b.1 (sz b.2) true = putL m b.1.toNat (sz b.2).toNat true := by unfold putV; rw [hm, if_pos rfl]
  refine ⟨e1, by unfold putE; rw [hm]; rfl, ?_⟩
  rw [e1]
  refine ⟨by rw [putL_length]; exact h1, fun x hx => ?_⟩
  rw [putL_length] at hx
  rw [putL_isOn m _ _ _ hx, cov_snoc]
  by_cases hi : b.1.toNat ≤ x ∧ x < b.1.toNat + (sz b.2).toNat
  · rw [if_pos hi]
    exact ⟨fun _ => .inr ⟨by omega, by omega⟩, fun _ => rfl⟩
  · rw [if_neg hi, h2 x hx]
    exact ⟨fun h => .inl h, fun h => h.elim id fun h => absurd (⟨by have := h.1; omega, by have := h.2; omega⟩ : b.1.toNat ≤ x ∧ x < b.1.toNat + (sz b.2).toNat) hi⟩
/-- A run of bits at a place. -/
theorem runL_at {m : List Bool} {a n : Nat} {on : Bool} (hn : 1 ≤ n) : runL m (a : Int) (n : Int) on = (a : Int) ↔ runAt m a n on = true := by
  constructor
  · intro h
    by_cases hr : runAt m a n on = true
    · exact hr
    · exfalso
      unfold runL at h
      rw [if_neg (by omega)] at h
      split at h
      · rename_i i hi
        have := List.find?_some hi
        simp only [Bool.and_eq_true, decide_eq_true_iff, Int.toNat_natCast] at this
        have e : i = a := by omega
        subst e
        exact hr this.2
      · omega
  · intro h
    have hl := (runAt_iff.1 h).1
    exact runL_some (by omega) (by omega) (Int.le_refl _) (by rw [Int.toNat_natCast]; exact h) (fun j hj hja => by omega)
theorem Mapped.taken {r : Int} {fs : List Blk} {m : List Bool} {b : Blk} (hf : ∀ a ∈ fs, May r a) (h : Mapped r fs m) (hr : r ≤ 8) (hb : May r b) : allTkn m b = true ↔ ∀ a ∈ fs, ¬ Meets b a := by
  obtain ⟨h1, h2⟩ := h
  obtain ⟨k0, k1, k2, k3, k4⟩ := hb
  have hp := sz_pos b.2
  obtain ⟨x, o⟩ := b
  simp only at *
  obtain ⟨a, rfl⟩ := Int.eq_ofNat_of_zero_le k2
  obtain ⟨n, hn⟩ := Int.eq_ofNat_of_zero_le (Int.le_of_lt hp)
  unfold allTkn
  rw [wordsI_in k0 (by omega), hn, beq_iff_eq, runL_at (by omega), runAt_iff]
  constructor
  · rintro ⟨e1, e2⟩ c hc hm
    obtain ⟨q1, q2⟩ := hm
    have hcp := sz_pos c.2
    simp only at q1 q2
    have hMc := hf c hc
    -- a word in both
    obtain ⟨y, hy⟩ : ∃ y : Nat, (y : Int) = max (a : Int) c.1 := ⟨(max (a : Int) c.1).toNat, by omega⟩
    have hon := (h2 y (by omega)).2 ⟨c, hc, by omega, by omega⟩
    have := e2 (y - a) (by omega)
    rw [show a + (y - a) = y by omega, hon] at this
    cases this
  · intro h3
    refine ⟨by omega, fun k hk => ?_⟩
    cases hon : isOn m (a + k) with
    | false => rfl
    | true =>
      obtain ⟨c, hc, hx⟩ := (h2 (a + k) (by omega)).1 hon
      exact absurd (meets_of (a := ((a : Int), o)) ⟨by simp only; omega, by simp only [hn]; omega⟩ hx) (h3 c hc)
end Go.Proofs.YthiijnanfiddpaaDoor

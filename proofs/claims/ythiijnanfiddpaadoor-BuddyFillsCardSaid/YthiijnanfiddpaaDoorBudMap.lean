/-
  How many words of a map are true that is the map of right blocks: plain mathematics.
-/
import Derived.Test.YthiijnanfiddpaaDoorBudLawF
namespace Go.Proofs.YthiijnanfiddpaaDoor
open Go.RowKit

theorem cnt_all (f : Nat → Bool) (x : Bool) : ∀ n, (∀ i, i < n → f i = x) → cnt f n = if x then n else 0
  | 0, _ => by cases x <;> rfl
  | n + 1, h => by
    rw [show cnt f (n + 1) = cnt f n + cnt (fun k => f (n + k)) 1 from cnt_add f n 1, cnt_all f x n fun i hi => h i (by omega)]
    have h1 : f n = x := h n (by omega)
    cases x <;> simp [cnt, h1]
theorem cnt_put {f g : Nat → Bool} {a n k : Nat} (hf : ∀ i, a ≤ i → i < a + n → f i = false) (hg : ∀ i, i < a + n + k → g i = if a ≤ i ∧ i < a + n then true else f i) :
    cnt g (a + n + k) = cnt f (a + n + k) + n := by
  rw [cnt_add, cnt_add, cnt_add f, cnt_add f]
  rw [cnt_congr (f := g) (g := f) (n := a) fun i hi => by rw [hg i (by omega), if_neg (by omega)]]
  rw [cnt_all (fun i => g (a + i)) true n fun i hi => by rw [hg (a + i) (by omega), if_pos (by omega)]]
  rw [cnt_all (fun i => f (a + i)) false n fun i hi => hf (a + i) (by omega) (by omega)]
  rw [cnt_congr (f := fun i => g (a + n + i)) (g := fun i => f (a + n + i)) (n := k) fun i hi => by rw [hg (a + n + i) (by omega), if_neg (by omega)]]
  simp
  omega

theorem mapped_same {r : Int} {fs : List Blk} {m m' : List Bool} (h : Mapped r fs m) (k : Mapped r fs m') : countL m = countL m' := by
  have hl : m.length = m'.length := by have := h.1; have := k.1; omega
  unfold countL
  rw [← hl]
  refine cnt_congr fun i hi => ?_
  rw [Bool.eq_iff_iff, h.2 i hi, k.2 i (by omega)]
/-- The words of right blocks, counted. -/
theorem mapped_count {r : Int} : ∀ (n : Nat) (fs : List Blk), fs.length = n → Right r fs → ∃ m, Mapped r fs m ∧ (countL m : Int) = sumL fs
  | 0, fs, hn, h => by
    obtain rfl : fs = [] := List.eq_nil_of_length_eq_zero hn
    have hmp := mapped_nil r
    refine ⟨_, hmp, ?_⟩
    unfold countL
    rw [cnt_all _ false _ fun i hi => by
      cases e : isOn (List.replicate (sz r).toNat false) i with
      | false => rfl
      | true => obtain ⟨c, hc, _⟩ := (hmp.2 i hi).1 e; cases hc]
    simp [sumL]
  | n + 1, fs, hn, h => by
    obtain ⟨fs', b, rfl⟩ : ∃ f b, fs = f ++ [b] := ⟨fs.dropLast, fs.getLast (by intro e; rw [e] at hn; simp at hn), (List.dropLast_concat_getLast _).symm⟩
    have hn' : fs'.length = n := by simp at hn; exact hn
    have h' : Right r fs' := by have := right_prefix h fs'.length; simpa using this
    obtain ⟨m, hm, hc⟩ := mapped_count n fs' hn' h'
    have hcm := (right_snoc h').1 h
    obtain ⟨p1, _, p3⟩ := hm.put hcm.1
    refine ⟨_, p3, ?_⟩
    obtain ⟨k0, k1, k2, k3, k4⟩ := hcm.1
    have hp := sz_pos b.2
    have hml := hm.1
    rw [sumL_snoc, p1]
    unfold countL
    rw [putL_length]
    have := cnt_put (f := isOn m) (g := isOn (putL m b.1.toNat (sz b.2).toNat true)) (a := b.1.toNat) (n := (sz b.2).toNat) (k := m.length - (b.1.toNat + (sz b.2).toNat)) (fun i hi hj => by
      cases e : isOn m i with
      | false => rfl
      | true =>
        obtain ⟨c, hc, hx⟩ := (hm.2 i (by omega)).1 e
        exact absurd (meets_of (show InB b (i : Int) from ⟨by omega, by omega⟩) hx) (hcm.2.1 c hc)) (fun i hi => putL_isOn _ _ _ _ (by omega))
    rw [show b.1.toNat + (sz b.2).toNat + (m.length - (b.1.toNat + (sz b.2).toNat)) = m.length by omega] at this
    unfold countL at hc
    rw [this]
    omega
theorem Mapped.count {r : Int} {fs : List Blk} {m : List Bool} (hR : Right r fs) (h : Mapped r fs m) : (countL m : Int) = sumL fs := by
  obtain ⟨m', h1, h2⟩ := mapped_count fs.length fs rfl hR
  rw [mapped_same h h1]
  exact h2
/-- The words of a block that is free are found. -/
theorem Mapped.found {r : Int} {fs : List Blk} {m : List Bool} {b : Blk} (h : Mapped r fs m) (hb : May r b) (hc : ∀ x, InB b x → Cov fs x) : runL m b.1 (sz b.2) true = b.1 := by
  obtain ⟨h1, h2⟩ := h
  obtain ⟨k0, k1, k2, k3, k4⟩ := hb
  have hp := sz_pos b.2
  obtain ⟨x, o⟩ := b
  simp only at *
  obtain ⟨a, rfl⟩ := Int.eq_ofNat_of_zero_le k2
  obtain ⟨n, hn⟩ := Int.eq_ofNat_of_zero_le (Int.le_of_lt hp)
  rw [hn, runL_at (by omega), runAt_iff]
  exact ⟨by omega, fun k hk => (h2 (a + k) (by omega)).2 (hc _ ⟨by simp only; omega, by simp only [hn]; omega⟩)⟩
/-- A block's words are turned off. -/
theorem Mapped.off {r : Int} {fs ms : List Blk} {m : List Bool} {b : Blk} (h : Mapped r fs m) (hb : May r b) (hc : ∀ x, Cov ms x ↔ Cov fs x ∧ ¬ InB b x) : putE m b.1 (sz b.2) = 0 ∧ Mapped r ms (putV m b.1 (sz b.2) false) := by
  obtain ⟨h1, h2⟩ := h
  obtain ⟨k0, k1, k2, k3, k4⟩ := hb
  have hp := sz_pos b.2
  have hm : mayPut m b.1 (sz b.2) = true := decide_eq_true ⟨k2, by omega, by omega⟩
  have e1 : putV m b.1 (sz b.2) false = putL m b.1.toNat (sz b.2).toNat false := by unfold putV; rw [hm, if_pos rfl]
  refine ⟨by unfold putE; rw [hm]; rfl, ?_⟩
  rw [e1]
  refine ⟨by rw [putL_length]; exact h1, fun x hx => ?_⟩
  rw [putL_length] at hx
  rw [putL_isOn m _ _ _ hx, hc]
  by_cases hi : b.1.toNat ≤ x ∧ x < b.1.toNat + (sz b.2).toNat
  · rw [if_pos hi]
    exact ⟨(fun e => by cases e), fun e => absurd (show InB b (x : Int) from ⟨by omega, by omega⟩) e.2⟩
  · rw [if_neg hi, h2 x hx]
    exact ⟨fun h => ⟨h, fun h => hi ⟨by have := h.1; omega, by have := h.2; omega⟩⟩, fun h => h.1⟩
theorem inB_cov {l : List Blk} {b : Blk} (h : b ∈ l) : ∀ x, InB b x → Cov l x := fun _ hx => ⟨b, h, hx⟩
end Go.Proofs.YthiijnanfiddpaaDoor

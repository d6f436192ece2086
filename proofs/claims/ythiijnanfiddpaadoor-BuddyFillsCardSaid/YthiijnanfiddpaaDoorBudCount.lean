/-
  What is taken, given back: plain mathematics. How many words right blocks have.
-/
import Derived.Test.YthiijnanfiddpaaDoorBudP
namespace Go.Proofs.YthiijnanfiddpaaDoor
open Go.RowKit

theorem Took.fits {r t : Int} {l m : List Blk} {b : Blk} (hR : Right r l) (ht : 0 ≤ t) (h : Took l t b m) : Fits r m b := by
  obtain ⟨h1, h2, h3⟩ := h.may hR ht
  obtain ⟨h4, h5⟩ := h.right hR ht
  refine ⟨h1, fun a ha hm => ?_⟩
  have hpa := sz_pos a.2
  have hpb := sz_pos b.2
  obtain ⟨y, hy1, hy2⟩ : ∃ y, InB b y ∧ InB a y := ⟨max b.1 a.1, by unfold InB; have := hm.1; have := hm.2; omega, by unfold InB; have := hm.1; have := hm.2; omega⟩
  exact ((h5 y).1 ⟨a, ha, hy2⟩).2 hy1
/-- What is taken and given back leaves what was. -/
theorem Took.back {r t : Int} {l m : List Blk} {b : Blk} (hR : Right r l) (ht : 0 ≤ t) (h : Took l t b m) : GiveRes r m b l 0 := by
  obtain ⟨h1, h2, h3⟩ := h.may hR ht
  obtain ⟨h4, h5⟩ := h.right hR ht
  refine .inr (.inr ⟨h4, h.fits hR ht, rfl, hR, fun x => ?_⟩)
  rw [h5 x]
  constructor
  · intro hx
    by_cases hb : InB b x
    · exact .inr hb
    · exact .inl ⟨hx, hb⟩
  · rintro (hx | hx)
    · exact hx.1
    · exact h3 x hx

theorem sumL_cons (b : Blk) (l : List Blk) : sumL (b :: l) = sz b.2 + sumL l := by simp [sumL]
theorem sumL_append (l m : List Blk) : sumL (l ++ m) = sumL l + sumL m := by simp [sumL]
theorem sumL_perm {l m : List Blk} (h : l.Perm m) : sumL l = sumL m := by
  induction h with
  | nil => rfl
  | cons x _ ih => rw [sumL_cons, sumL_cons, ih]
  | swap x y l => simp only [sumL_cons]; omega
  | trans _ _ h1 h2 => exact h1.trans h2
/-- Take's list by steps: the sum goes with them. -/
theorem halves_sum {r t : Int} {l : List Blk} {B : Blk} (hR : Right r l) (hB : B ∈ l) (ht : 0 ≤ t) : ∀ (n : Nat), (n : Int) ≤ B.2 - t → ∃ m, TkInv l B (B.2 - n) m ∧ sumL m + sz (B.2 - n) = sumL l
  | 0, _ => by
    have hp := woL_perm (rest := l.erase B) hR (List.perm_cons_erase hB).symm
    refine ⟨woL l B, by simpa using TkInv.start hR, ?_⟩
    have h1 := sumL_perm (List.perm_cons_erase hB)
    rw [sumL_cons] at h1
    have h2 := sumL_perm hp
    simp only [Int.natCast_zero, Int.sub_zero]
    omega
  | n + 1, hn => by
    obtain ⟨m, h1, h2⟩ := halves_sum hR hB ht n (by omega)
    have h3 := TkInv.step hR hB (by omega) (by omega) h1
    refine ⟨_, by rw [show B.2 - ((n + 1 : Nat) : Int) = B.2 - n - 1 by omega]; exact h3, ?_⟩
    rw [show B.2 - ((n + 1 : Nat) : Int) = B.2 - n - 1 by omega, sumL_perm (ins_perm _ m), sumL_cons]
    have h4 := sz_succ (o := B.2 - n - 1) (by omega)
    rw [show B.2 - (n : Int) - 1 + 1 = B.2 - n by omega] at h4
    simp only
    omega
theorem Took.sum {r t : Int} {l m : List Blk} {b : Blk} (hR : Right r l) (ht : 0 ≤ t) (h : Took l t b m) : sumL m + sz t = sumL l := by
  obtain ⟨B, h1, h2, h3, rfl, h5, h6⟩ := h
  obtain ⟨m', ⟨k1, k2⟩, k3⟩ := halves_sum hR h1 ht (B.2 - t).toNat (by omega)
  rw [show B.2 - ((B.2 - t).toNat : Int) = t by omega] at k2 k3
  rw [rise_ext h5 k1 fun c => by rw [h6, k2]]
  exact k3
end Go.Proofs.YthiijnanfiddpaaDoor

/-
  What taking a block leaves: plain mathematics, no program.
-/
import Derived.Test.YthiijnanfiddpaaDoorBudHeap
namespace Go.Proofs.YthiijnanfiddpaaDoor
open Go.RowKit

/-- One of the upper halves, when B is halved down to order t. -/
def IsHalf (B : Blk) (t : Int) (c : Blk) : Prop := t ≤ c.2 ∧ c.2 < B.2 ∧ c.1 = B.1 + sz c.2
/-- Of l the block b of order t is taken, and m is left. -/
def Took (l : List Blk) (t : Int) (b : Blk) (m : List Blk) : Prop :=
  ∃ B ∈ l, t ≤ B.2 ∧ (∀ c ∈ l, t ≤ c.2 → Lq B c) ∧ b = (B.1, t) ∧ m.Pairwise (fun x y => x.1 < y.1) ∧ ∀ c, c ∈ m ↔ (c ∈ l ∧ c ≠ B) ∨ IsHalf B t c
theorem Lq.anti {a b : Blk} (h : Lq a b) (k : Lq b a) : a = b := by
  unfold Lq at *
  exact Prod.ext (by omega) (by omega)
theorem Took.eq {l m m' : List Blk} {t : Int} {b b' : Blk} (h : Took l t b m) (k : Took l t b' m') : b = b' ∧ m = m' := by
  obtain ⟨B, h1, h2, h3, rfl, h5, h6⟩ := h
  obtain ⟨C, k1, k2, k3, rfl, k5, k6⟩ := k
  obtain rfl : B = C := (h3 C k1 k2).anti (k3 B h1 h2)
  exact ⟨rfl, rise_ext h5 k5 fun c => by rw [h6, k6]⟩

theorem half_may {r t : Int} {B c : Blk} (hr : r ≤ 8) (ht : 0 ≤ t) (hB : May r B) (h : IsHalf B t c) : May r c ∧ B.1 ≤ c.1 ∧ c.1 + sz c.2 ≤ B.1 + sz B.2 ∧ twin c = (B.1, c.2) ∧ B.1 + sz t ≤ c.1 := by
  obtain ⟨h1, h2, h3⟩ := h
  obtain ⟨k0, k1, k2, k3, k4⟩ := hB
  obtain ⟨y, p⟩ := B
  obtain ⟨x, o⟩ := c
  simp only at *
  subst h3
  unfold twin May
  simp only
  have hst := sz_le ht h1 (by omega)
  have hp := sz_pos o
  rcases ords (o := o) (by omega) (by omega) with h | h | h | h | h | h | h | h | h <;> subst h <;> rcases ords (o := p) (by omega) (by omega) with h | h | h | h | h | h | h | h | h <;> subst h <;>
    first
    | omega
    | (simp only [sz0, sz1, sz2, sz3, sz4, sz5, sz6, sz7, sz8] at *
       refine ⟨⟨by omega, by omega, by omega, by omega, by omega⟩, by omega, by omega, ?_, by omega⟩
       rw [if_neg (by omega)]
       simp)
theorem half_find {t : Int} (ht : 0 ≤ t) : ∀ (n : Nat) (y : Int), sz t ≤ y → y < sz (t + n) → ∃ k : Int, t ≤ k ∧ k < t + n ∧ sz k ≤ y ∧ y < 2 * sz k
  | 0, y, h1, h2 => by simp at h2; omega
  | n + 1, y, h1, h2 => by
    by_cases h : y < sz (t + n)
    · obtain ⟨k, a, b, c⟩ := half_find ht n y h1 h
      exact ⟨k, a, by omega, c⟩
    · refine ⟨t + n, by omega, by omega, by omega, ?_⟩
      have := sz_succ (o := t + n) (by omega)
      rw [show t + ((n + 1 : Nat) : Int) = t + n + 1 by omega, this] at h2
      exact h2

theorem Took.may {r t : Int} {l m : List Blk} {b : Blk} (hR : Right r l) (ht : 0 ≤ t) (h : Took l t b m) : May r b ∧ b.2 = t ∧ ∀ x, InB b x → Cov l x := by
  obtain ⟨B, h1, h2, h3, rfl, h5, h6⟩ := h
  have hM := hR.may h1
  have hr := hR.1.2
  obtain ⟨k0, k1, k2, k3, k4⟩ := hM
  obtain ⟨y, p⟩ := B
  simp only at *
  have hst := sz_le ht h2 (by omega)
  refine ⟨⟨ht, by omega, k2, by simp only; omega, ?_⟩, trivial, fun x hx => ⟨(y, p), h1, hx.1, by have := hx.2; simp only at this ⊢; omega⟩⟩
  simp only
  rcases ords (o := t) ht (by omega) with h | h | h | h | h | h | h | h | h <;> subst h <;> rcases ords (o := p) (by omega) (by omega) with h | h | h | h | h | h | h | h | h <;> subst h <;>
    first | omega | (simp only [sz0, sz1, sz2, sz3, sz4, sz5, sz6, sz7, sz8] at *; omega)
theorem Took.right {r t : Int} {l m : List Blk} {b : Blk} (hR : Right r l) (ht : 0 ≤ t) (h : Took l t b m) : Right r m ∧ ∀ x, Cov m x ↔ Cov l x ∧ ¬ InB b x := by
  obtain ⟨B, h1, h2, h3, rfl, h5, h6⟩ := h
  have hr := hR.1.2
  have hMB := hR.may h1
  have hin : ∀ c, IsHalf B t c → May r c ∧ B.1 ≤ c.1 ∧ c.1 + sz c.2 ≤ B.1 + sz B.2 ∧ twin c = (B.1, c.2) ∧ B.1 + sz t ≤ c.1 := fun c hc => half_may hr ht hMB hc
  -- what lies in B meets no other one
  have hapart : ∀ c d : Blk, c ∈ l → c ≠ B → (B.1 ≤ d.1 ∧ d.1 + sz d.2 ≤ B.1 + sz B.2) → ¬ Meets c d := fun c d hc hne hd hm => by
    refine hne (hR.apart hc h1 ?_)
    have := sz_pos d.2
    exact ⟨by have := hm.1; have := hm.2; omega, by have := hm.1; have := hm.2; omega⟩
  refine ⟨right_of hR.1 h5 (fun c hc => ?_) (fun a ha b hb hne hm => ?_) (fun a ha b hb hlt hbr htw => ?_), fun x => ?_⟩
  · rcases (h6 c).1 hc with e | e
    · exact hR.may e.1
    · exact (hin c e).1
  · rcases (h6 a).1 ha with e | e <;> rcases (h6 b).1 hb with f | f
    · exact hne (hR.apart e.1 f.1 hm)
    · exact hapart a b e.1 e.2 ⟨(hin b f).2.1, (hin b f).2.2.1⟩ hm
    · exact hapart b a f.1 f.2 ⟨(hin a e).2.1, (hin a e).2.2.1⟩ hm.symm
    · obtain ⟨e1, e2, e3⟩ := e
      obtain ⟨f1, f2, f3⟩ := f
      have hord : a.2 ≠ b.2 := fun q => hne (Prod.ext (by rw [e3, f3, q]) q)
      obtain ⟨m1, m2⟩ := hm
      rcases Int.lt_or_gt_of_ne hord with q | q
      · have := sz_le (o := a.2 + 1) (p := b.2) (by omega) (by omega) (by have := hMB.2.1; omega)
        rw [sz_succ (by omega)] at this
        omega
      · have := sz_le (o := b.2 + 1) (p := a.2) (by omega) (by omega) (by have := hMB.2.1; omega)
        rw [sz_succ (by omega)] at this
        omega
  · have hord : b.2 = a.2 := by rw [← htw, twin_ord]
    rcases (h6 a).1 ha with e | e <;> rcases (h6 b).1 hb with f | f
    · exact hR.notwin e.1 f.1 hbr htw
    · have q := (hin b f).2.2.2.1
      rw [htw] at q
      have hB := hin b f
      have := sz_pos b.2
      have hlt2 := sz_le (o := b.2) (p := B.2) (hB.1.1) (by have := f.2.1; omega) (by have := hMB.2.1; omega)
      exact hapart a (B.1, b.2) e.1 e.2 ⟨by simp only; omega, by simp only; omega⟩ (by rw [q]; exact ⟨by simp only; omega, by simp only; omega⟩)
    · -- b is a's twin
      have q := (hin a e).2.2.2.1
      have hMb := hR.may f.1
      have hrr : b = twin a := by
        rw [← htw]
        obtain ⟨x, o⟩ := b
        obtain ⟨j0, j1, j2, j3, j4⟩ := hMb
        simp only at *
        unfold twin
        simp only
        rcases ords (o := o) (by omega) (by omega) with h | h | h | h | h | h | h | h | h <;> subst h <;> simp only [sz0, sz1, sz2, sz3, sz4, sz5, sz6, sz7, sz8] at * <;> split <;> simp only [sz0, sz1, sz2, sz3, sz4, sz5, sz6, sz7, sz8] <;> split <;> simp <;> omega
      rw [q] at hrr
      have := (hin a e).2.1
      have h0 := e.2.2
      have := sz_pos a.2
      rw [hrr] at hlt
      simp only at hlt
      omega
    · have q := e.2.2
      have q2 := f.2.2
      rw [hord] at q2
      omega
  · constructor
    · rintro ⟨c, hc, hx⟩
      rcases (h6 c).1 hc with e | e
      · refine ⟨⟨c, e.1, hx⟩, fun hb => e.2 ?_⟩
        have := sz_le ht h2 (by have := hMB.2.1; omega)
        exact hR.one e.1 h1 hx ⟨hb.1, by have := hb.2; simp only at this; omega⟩
      · have hh := hin c e
        refine ⟨⟨B, h1, by have := hx.1; omega, by have := hx.2; omega⟩, fun hb => ?_⟩
        have := hb.2
        have := hx.1
        simp only at *
        omega
    · rintro ⟨⟨c, hc, hx⟩, hb⟩
      by_cases e : c = B
      · subst e
        have hk : ¬ x < c.1 + sz t := fun q => hb ⟨hx.1, q⟩
        obtain ⟨n, hn⟩ : ∃ n : Nat, c.2 = t + n := ⟨(c.2 - t).toNat, by omega⟩
        obtain ⟨k, k1, k2, k3, k4⟩ := half_find ht n (x - c.1) (by omega) (by rw [← hn]; have := hx.2; omega)
        exact ⟨(c.1 + sz k, k), (h6 _).2 (.inr ⟨k1, by simp only; omega, rfl⟩), by simp only; omega, by simp only; omega⟩
      · exact ⟨c, (h6 c).2 (.inl ⟨hc, e⟩), hx⟩
end Go.Proofs.YthiijnanfiddpaaDoor

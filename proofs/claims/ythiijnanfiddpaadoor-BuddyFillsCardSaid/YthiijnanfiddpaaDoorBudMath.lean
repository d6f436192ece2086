/-
  Blocks of a region: plain mathematics, no program. Rows of free blocks that are right; the words that they have; that the words tell the blocks; what taking and giving back leave.
-/
import Derived.Test.YthiijnanfiddpaaDoorMem
namespace Go.Proofs.YthiijnanfiddpaaDoor
open Go.RowKit

/-- A block: where it begins, and its order. -/
abbrev Blk := Int × Int
/-- Its size. -/
def sz (o : Int) : Int := 2 ^ o.toNat
theorem sz0 : sz 0 = 1 := by decide
theorem sz1 : sz 1 = 2 := by decide
theorem sz2 : sz 2 = 4 := by decide
theorem sz3 : sz 3 = 8 := by decide
theorem sz4 : sz 4 = 16 := by decide
theorem sz5 : sz 5 = 32 := by decide
theorem sz6 : sz 6 = 64 := by decide
theorem sz7 : sz 7 = 128 := by decide
theorem sz8 : sz 8 = 256 := by decide
theorem ords {o : Int} (h : 0 ≤ o) (h8 : o ≤ 8) : o = 0 ∨ o = 1 ∨ o = 2 ∨ o = 3 ∨ o = 4 ∨ o = 5 ∨ o = 6 ∨ o = 7 ∨ o = 8 := by omega
theorem sz_pos (o : Int) : 0 < sz o := by
  unfold sz
  exact_mod_cast Nat.pow_pos (n := o.toNat) (show 0 < 2 by decide)
theorem sz_succ {o : Int} (h : 0 ≤ o) : sz (o + 1) = 2 * sz o := by
  unfold sz
  rw [show (o + 1).toNat = o.toNat + 1 by omega, Int.pow_succ]
  omega
theorem sz_le {o p : Int} (h : 0 ≤ o) (hp : o ≤ p) (h8 : p ≤ 8) : sz o ≤ sz p := by
  rcases ords (o := o) h (by omega) with h | h | h | h | h | h | h | h | h <;> subst h <;> rcases ords (o := p) (by omega) h8 with h | h | h | h | h | h | h | h | h <;> subst h <;>
    first | omega | (simp only [sz0, sz1, sz2, sz3, sz4, sz5, sz6, sz7, sz8]; omega)
theorem sz_le256 {o : Int} (h : 0 ≤ o) (h8 : o ≤ 8) : sz o ≤ 256 := by
  have := sz_le h h8 (Int.le_refl 8)
  rwa [sz8] at this
theorem sz_inj {o p : Int} (h : 0 ≤ o) (h8 : o ≤ 8) (hp : 0 ≤ p) (hp8 : p ≤ 8) (he : sz o ≤ sz p) : o ≤ p := by
  rcases ords h h8 with h | h | h | h | h | h | h | h | h <;> subst h <;> rcases ords hp hp8 with h | h | h | h | h | h | h | h | h <;> subst h <;>
    first | omega | (simp only [sz0, sz1, sz2, sz3, sz4, sz5, sz6, sz7, sz8] at he; omega)

/-- A block may be in a region of order r. -/
def May (r : Int) (b : Blk) : Prop := 0 ≤ b.2 ∧ b.2 ≤ r ∧ 0 ≤ b.1 ∧ b.1 ≤ sz r - sz b.2 ∧ b.1 % sz b.2 = 0
instance (r : Int) (b : Blk) : Decidable (May r b) := by unfold May; infer_instance
def Meets (a b : Blk) : Prop := a.1 < b.1 + sz b.2 ∧ b.1 < a.1 + sz a.2
instance (a b : Blk) : Decidable (Meets a b) := by unfold Meets; infer_instance
theorem Meets.symm {a b : Blk} (h : Meets a b) : Meets b a := ⟨h.2, h.1⟩
def twin (b : Blk) : Blk := if b.1 % (2 * sz b.2) = 0 then (b.1 + sz b.2, b.2) else (b.1 - sz b.2, b.2)
theorem twin_ord (b : Blk) : (twin b).2 = b.2 := by unfold twin; split <;> rfl
/-- Free block a stands ahead of b, rightly. -/
def Ahd (r : Int) (a b : Blk) : Prop := a.1 < b.1 ∧ ¬ Meets b a ∧ ¬ (b.2 < r ∧ twin b = a)
instance (r : Int) (a b : Blk) : Decidable (Ahd r a b) := by unfold Ahd; infer_instance
/-- Free blocks are right. -/
def Right (r : Int) (l : List Blk) : Prop := (3 ≤ r ∧ r ≤ 8) ∧ (∀ b ∈ l, May r b) ∧ l.Pairwise (Ahd r)
instance (r : Int) (l : List Blk) : Decidable (Right r l) := by unfold Right; infer_instance
def InB (b : Blk) (x : Int) : Prop := b.1 ≤ x ∧ x < b.1 + sz b.2
/-- A word is one of some blocks'. -/
def Cov (l : List Blk) (x : Int) : Prop := ∃ b ∈ l, InB b x

theorem pw_mem {α : Type} {R : α → α → Prop} : ∀ {l : List α}, l.Pairwise R → ∀ {a b : α}, a ∈ l → b ∈ l → a = b ∨ R a b ∨ R b a
  | [], _, _, _, ha, _ => by cases ha
  | c :: t, h, a, b, ha, hb => by
    rw [List.pairwise_cons] at h
    rcases List.mem_cons.1 ha with ea | ha'
    · rcases List.mem_cons.1 hb with eb | hb'
      · exact .inl (ea.trans eb.symm)
      · exact .inr (.inl (ea ▸ h.1 _ hb'))
    · rcases List.mem_cons.1 hb with eb | hb'
      · exact .inr (.inr (eb ▸ h.1 _ ha'))
      · exact pw_mem h.2 ha' hb'

/-- Of blocks that meet the lesser one lies in the greater one. -/
theorem nest {a b : Blk} (ha : 0 ≤ a.2) (hab : a.2 ≤ b.2) (hb : b.2 ≤ 8) (ma : a.1 % sz a.2 = 0) (mb : b.1 % sz b.2 = 0) (h : Meets a b) : b.1 ≤ a.1 ∧ a.1 + sz a.2 ≤ b.1 + sz b.2 := by
  obtain ⟨x, o⟩ := a
  obtain ⟨y, p⟩ := b
  obtain ⟨h1, h2⟩ := h
  simp only at *
  rcases ords ha (by omega) with h | h | h | h | h | h | h | h | h <;> subst h <;> rcases ords (o := p) (by omega) hb with h | h | h | h | h | h | h | h | h <;> subst h <;>
    first | omega | (simp only [sz0, sz1, sz2, sz3, sz4, sz5, sz6, sz7, sz8] at *; omega)
theorem meets_of {a b : Blk} {x : Int} (h : InB a x) (k : InB b x) : Meets a b := by
  obtain ⟨h1, h2⟩ := h
  obtain ⟨k1, k2⟩ := k
  exact ⟨by omega, by omega⟩
theorem self_in (b : Blk) : InB b b.1 := by
  have := sz_pos b.2
  exact ⟨by omega, by omega⟩

section
variable {r : Int} {l m : List Blk}
theorem Right.apart (h : Right r l) {a b : Blk} (ha : a ∈ l) (hb : b ∈ l) (hm : Meets a b) : a = b := by
  rcases pw_mem h.2.2 ha hb with h | h | h
  · exact h
  · exact absurd hm.symm h.2.1
  · exact absurd hm h.2.1
theorem Right.may (h : Right r l) {a : Blk} (ha : a ∈ l) : May r a := h.2.1 a ha
theorem Right.one (h : Right r l) {a b : Blk} (ha : a ∈ l) (hb : b ∈ l) {x : Int} (hx : InB a x) (hy : InB b x) : a = b := h.apart ha hb (meets_of hx hy)
theorem Right.sub (h : Right r l) (hs : m.Sublist l) : Right r m := ⟨h.1, fun b hb => h.2.1 b (hs.mem hb), h.2.2.sublist hs⟩
/-- No two are twins. -/
theorem Right.notwin (h : Right r l) {a b : Blk} (ha : a ∈ l) (hb : b ∈ l) (hr : b.2 < r) : twin b ≠ a := by
  intro he
  have h1 := h.may hb
  have hp := sz_pos b.2
  rcases pw_mem h.2.2 ha hb with e | e | e
  · subst e
    have := congrArg Prod.fst he
    unfold twin at this
    split at this <;> simp at this <;> omega
  · exact e.2.2 ⟨hr, he⟩
  · refine e.2.2 ⟨by rw [← he, twin_ord]; exact hr, ?_⟩
    rw [← he]
    obtain ⟨x, o⟩ := b
    obtain ⟨k0, k1, k2, k3, k4⟩ := h1
    have hr8 := h.1.2
    simp only at *
    unfold twin
    simp only
    rcases ords k0 (by omega) with h | h | h | h | h | h | h | h | h <;> subst h <;> simp only [sz0, sz1, sz2, sz3, sz4, sz5, sz6, sz7, sz8] at * <;> split <;> simp only [sz0, sz1, sz2, sz3, sz4, sz5, sz6, sz7, sz8] <;> split <;> simp <;> omega

theorem sub_eq {b D : Blk} (hb : 0 ≤ b.2) (hbD : b.2 ≤ D.2) (hD : D.2 ≤ 8) (h1 : b.1 ≤ D.1) (h2 : D.1 + sz D.2 ≤ b.1 + sz b.2) : b = D := by
  have h3 := sz_le hb hbD hD
  have h4 : D.2 ≤ b.2 := sz_inj (by omega) hD hb (by omega) (by omega)
  have h5 : b.2 = D.2 := by omega
  rw [h5] at h2 h3
  exact Prod.ext (by omega) h5

/-- A block all of whose words are free lies in one free block. -/
theorem full (h : Right r l) : ∀ (k : Nat) (D : Blk), D.2 = (k : Int) → D.2 ≤ r → D.1 % sz D.2 = 0 → (∀ x, InB D x → Cov l x) → ∃ b ∈ l, b.1 ≤ D.1 ∧ D.1 + sz D.2 ≤ b.1 + sz b.2
  | 0, D, hk, hr, hm, hc => by
    obtain ⟨b, hb, h1, h2⟩ := hc D.1 (self_in D)
    refine ⟨b, hb, h1, ?_⟩
    rw [hk, show sz ((0 : Nat) : Int) = 1 from sz0]
    omega
  | k + 1, D, hk, hr, hm, hc => by
    have hr8 := h.1.2
    have hs : sz D.2 = 2 * sz (k : Int) := by rw [hk, ← sz_succ (by omega)]; rfl
    have hp := sz_pos (k : Int)
    have m1 : D.1 % sz (k : Int) = 0 ∧ (D.1 + sz (k : Int)) % sz (k : Int) = 0 := by
      rw [hs] at hm
      rcases ords (o := (k : Int)) (by omega) (by omega) with h | h | h | h | h | h | h | h | h <;> rw [h] at hm ⊢ <;> simp only [sz0, sz1, sz2, sz3, sz4, sz5, sz6, sz7, sz8] at * <;> omega
    obtain ⟨b1, hb1, p1, q1⟩ := full h k (D.1, (k : Int)) rfl (by simp only; omega) m1.1 (fun x hx => hc x ⟨hx.1, by have := hx.2; simp only at this; omega⟩)
    obtain ⟨b2, hb2, p2, q2⟩ := full h k (D.1 + sz (k : Int), (k : Int)) rfl (by simp only; omega) m1.2 (fun x hx => hc x ⟨by have := hx.1; simp only at this; omega, by have := hx.2; simp only at this; omega⟩)
    simp only at p1 q1 p2 q2
    have M1 := h.may hb1
    have M2 := h.may hb2
    have key : ∀ b : Blk, b ∈ l → Meets D b → (k : Int) < b.2 → ∃ b ∈ l, b.1 ≤ D.1 ∧ D.1 + sz D.2 ≤ b.1 + sz b.2 := fun b hb hmt hlt => by
      have M := h.may hb
      exact ⟨b, hb, nest (by omega) (by omega) (by have := M.2.1; omega) hm M.2.2.2.2 hmt⟩
    by_cases c1 : (k : Int) < b1.2
    · exact key b1 hb1 ⟨by omega, by omega⟩ c1
    by_cases c2 : (k : Int) < b2.2
    · exact key b2 hb2 ⟨by omega, by omega⟩ c2
    have e1 : b1 = (D.1, (k : Int)) := sub_eq M1.1 (by simp only; omega) (by simp only; omega) p1 q1
    have e2 : b2 = (D.1 + sz (k : Int), (k : Int)) := sub_eq M2.1 (by simp only; omega) (by simp only; omega) p2 q2
    exfalso
    refine h.notwin hb1 hb2 (by rw [e2]; simp only; omega) ?_
    rw [e1, e2]
    unfold twin
    simp only
    rw [hs] at hm
    rw [if_neg (by
      rcases ords (o := (k : Int)) (by omega) (by omega) with h | h | h | h | h | h | h | h | h <;> rw [h] at hm ⊢ <;> simp only [sz0, sz1, sz2, sz3, sz4, sz5, sz6, sz7, sz8] at * <;> omega)]
    simp

theorem cov_sub (h : Right r l) (hm : Right r m) (hc : ∀ x, Cov l x ↔ Cov m x) : ∀ b ∈ l, b ∈ m := by
  intro b hb
  have M := h.may hb
  obtain ⟨k, hk⟩ : ∃ k : Nat, b.2 = (k : Int) := ⟨b.2.toNat, by have := M.1; omega⟩
  obtain ⟨c, hcm, c1, c2⟩ := full hm k b hk M.2.1 M.2.2.2.2 fun x hx => (hc x).1 ⟨b, hb, hx⟩
  have N := hm.may hcm
  obtain ⟨k', hk'⟩ : ∃ k : Nat, c.2 = (k : Int) := ⟨c.2.toNat, by have := N.1; omega⟩
  obtain ⟨d, hd, d1, d2⟩ := full h k' c hk' N.2.1 N.2.2.2.2 fun x hx => (hc x).2 ⟨c, hcm, hx⟩
  have p1 := sz_pos b.2
  have p2 := sz_pos c.2
  have e : d = b := h.apart hd hb ⟨by omega, by omega⟩
  subst e
  have e1 : c.1 = d.1 := by omega
  have e2 : sz c.2 = sz d.2 := by omega
  have r8 := h.1.2
  have e3 : c.2 = d.2 := by
    have u1 := sz_inj M.1 (by have := M.2.1; omega) N.1 (by have := N.2.1; omega) (by omega)
    have u2 := sz_inj N.1 (by have := N.2.1; omega) M.1 (by have := M.2.1; omega) (by omega)
    omega
  rw [← (Prod.ext e1 e3 : c = d)]
  exact hcm

/-- Rows that rise and have the same elements are the same. -/
theorem rise_ext : ∀ {l m : List Blk}, l.Pairwise (fun a b => a.1 < b.1) → m.Pairwise (fun a b => a.1 < b.1) → (∀ b, b ∈ l ↔ b ∈ m) → l = m
  | [], [], _, _, _ => rfl
  | [], c :: t, _, _, h => absurd ((h c).2 (List.mem_cons_self ..)) (by simp)
  | a :: s, [], _, _, h => absurd ((h a).1 (List.mem_cons_self ..)) (by simp)
  | a :: s, c :: t, hl, hm, h => by
    rw [List.pairwise_cons] at hl hm
    have e : a = c := by
      rcases List.mem_cons.1 ((h a).1 (List.mem_cons_self ..)) with e | e
      · exact e
      · rcases List.mem_cons.1 ((h c).2 (List.mem_cons_self ..)) with e' | e'
        · exact e'.symm
        · have := hl.1 _ e'
          have := hm.1 _ e
          omega
    subst e
    refine congrArg (a :: ·) (rise_ext hl.2 hm.2 fun b => ⟨fun hb => ?_, fun hb => ?_⟩)
    · rcases List.mem_cons.1 ((h b).1 (List.mem_cons_of_mem _ hb)) with e | e
      · subst e
        have := hl.1 _ hb
        omega
      · exact e
    · rcases List.mem_cons.1 ((h b).2 (List.mem_cons_of_mem _ hb)) with e | e
      · subst e
        have := hm.1 _ hb
        omega
      · exact e
theorem Right.rise (h : Right r l) : l.Pairwise (fun a b => a.1 < b.1) := h.2.2.imp fun h => h.1

/-- What is free tells the free blocks. -/
theorem canon (h : Right r l) (hm : Right r m) (hc : ∀ x, Cov l x ↔ Cov m x) : l = m :=
  rise_ext h.rise hm.rise fun b => ⟨cov_sub h hm hc b, cov_sub hm h (fun x => (hc x).symm) b⟩

/-- Rows that rise, of blocks that may be and are apart and no twins, are right. -/
theorem right_of (hr : 3 ≤ r ∧ r ≤ 8) (hl : l.Pairwise (fun a b => a.1 < b.1)) (hm : ∀ b ∈ l, May r b) (ha : ∀ a ∈ l, ∀ b ∈ l, a ≠ b → ¬ Meets a b) (ht : ∀ a ∈ l, ∀ b ∈ l, a.1 < b.1 → b.2 < r → twin b ≠ a) : Right r l :=
  ⟨hr, hm, hl.imp_of_mem fun {a b} h1 h2 h => ⟨h, ha b h2 a h1 (by rintro rfl; omega), fun e => ht a h1 b h2 h e.1 e.2⟩⟩

/-- As many as there are words, at most. -/
theorem rise_len : ∀ {l : List Blk} {lo hi : Int}, l.Pairwise (fun a b => a.1 < b.1) → (∀ b ∈ l, lo ≤ b.1 ∧ b.1 < hi) → (l.length : Int) ≤ max 0 (hi - lo)
  | [], lo, hi, _, _ => by simp; omega
  | a :: t, lo, hi, h, hb => by
    rw [List.pairwise_cons] at h
    have h1 := hb a (List.mem_cons_self ..)
    have := rise_len (lo := a.1 + 1) (hi := hi) h.2 fun b hm => ⟨by have := h.1 b hm; omega, (hb b (List.mem_cons_of_mem _ hm)).2⟩
    simp only [List.length_cons]
    omega
theorem Right.len (h : Right r l) : (l.length : Int) ≤ sz r := by
  have := rise_len (lo := 0) (hi := sz r) h.rise fun b hb => ⟨(h.may hb).2.2.1, by have := (h.may hb).2.2.2.1; have := sz_pos b.2; omega⟩
  have := sz_pos r
  omega
theorem Right.len256 (h : Right r l) : l.length ≤ 256 := by
  have := h.len
  have := sz_le256 (o := r) (by have := h.1; omega) h.1.2
  omega
end
end Go.Proofs.YthiijnanfiddpaaDoor

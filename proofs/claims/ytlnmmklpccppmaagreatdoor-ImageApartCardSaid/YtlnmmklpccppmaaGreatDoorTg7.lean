/-
  What the document's helpers that make rows do: without one, with one more; how many words; which block is taken: contracts.
  Heaps of blocks by order and place: plain mathematics, no program.
  How many words blocks have, and which block is taken, by the document: contracts.
-/
import Derived.Test.YtlnmmklpccppmaaGreatDoorTg6
import Derived.Test.YtlnmmklpccppmaaGreatDoorTg4
namespace Go.Proofs.YtlnmmklpccppmaaGreatDoor
open Go.RowKit
/-- Blocks but one. -/
def woL (l : List Blk) (b : Blk) : List Blk := l.filter fun x => !sameB x b
theorem woL_mem {l : List Blk} {b c : Blk} : c ∈ woL l b ↔ c ∈ l ∧ c ≠ b := by
  unfold woL
  rw [List.mem_filter]
  constructor
  · rintro ⟨h1, h2⟩
    exact ⟨h1, fun e => by rw [(sameB_iff _ _).2 e] at h2; cases h2⟩
  · rintro ⟨h1, h2⟩
    exact ⟨h1, by rw [sameB_no h2]; rfl⟩
/-- The row of the call's own, so far. -/
def RowRel (W : World) (v : Value) (o : List Blk) (wr : World) : Prop := OwnB 65 wr W.heap.size v o ∧ Below W.heap.size W wr
theorem RowRel.app {W wr w2 : World} {v v' : Value} {o o' : List Blk} (h : RowRel W v o wr) (k : AppB 65 wr W.heap.size v o' v' w2) : RowRel W v' o' w2 := ⟨k.1, k.below h.1 (Nat.le_refl _) h.2.size h.2⟩
theorem RowRel.one {W wr : World} {v : Value} {o : List Blk} (h : RowRel W v o wr) (hl : o.length ≤ 5000) (b : Blk) :
    ∃ v' w', (Builtin.append_ #[24, 24] 24 #[v, .slice (some ⟨wr.heap.size, 0, none⟩) 1 1]).run Tryz.prog (wr.alloc (.cells #[.int .i64 b.1, .int .i64 b.2] 65)) = .ok v' w' ∧ RowRel W v' (o ++ [b]) w' := by
  obtain ⟨v', w', h1, h2⟩ := run_appB_one (P := Tryz.prog) W.heap.size 24 24 65 Tryz.underlying24 Tryz.infoBlk2 rfl v o h.1 b (by omega) h.2.size
  exact ⟨v', w', h1, h.app h2⟩
/-- Blocks, and one more, by rising place. -/
def ins (b : Blk) : List Blk → List Blk
  | [] => [b]
  | c :: t => if b.1 < c.1 then b :: c :: t else c :: ins b t
theorem ins_mem {b c : Blk} : ∀ {l : List Blk}, c ∈ ins b l ↔ c = b ∨ c ∈ l
  | [] => by simp [ins]
  | d :: t => by
    unfold ins
    split
    · simp
    · simp only [List.mem_cons, ins_mem (l := t)]
      constructor
      · rintro (h | h | h) <;> simp [h]
      · rintro (h | h | h) <;> simp [h]
theorem ins_rise {b : Blk} : ∀ {l : List Blk}, l.Pairwise (fun x y => x.1 < y.1) → (∀ c ∈ l, c.1 ≠ b.1) → (ins b l).Pairwise (fun x y => x.1 < y.1)
  | [], _, _ => List.pairwise_singleton _ _
  | d :: t, h, hne => by
    unfold ins
    split
    · rename_i hlt
      rw [List.pairwise_cons]
      refine ⟨fun c hc => ?_, h⟩
      rcases List.mem_cons.1 hc with e | e
      · rw [e]; exact hlt
      · have := (List.pairwise_cons.1 h).1 c e; omega
    · rename_i hlt
      rw [List.pairwise_cons] at h ⊢
      refine ⟨fun c hc => ?_, ins_rise h.2 fun c hc => hne c (List.mem_cons_of_mem _ hc)⟩
      have hd := hne d (List.mem_cons_self ..)
      rcases ins_mem.1 hc with e | e
      · rw [e]; omega
      · exact h.1 c e
end Go.Proofs.YtlnmmklpccppmaaGreatDoor
namespace Go.Proofs.YtlnmmklpccppmaaGreatDoor
open Go.RowKit
/-- By order, and then by place. -/
def lessB (a b : Blk) : Bool := decide (a.2 < b.2) || (a.2 == b.2 && decide (a.1 < b.1))
theorem lessB_iff (a b : Blk) : lessB a b = true ↔ a.2 < b.2 ∨ (a.2 = b.2 ∧ a.1 < b.1) := by simp [lessB]
/-- a is not behind b. -/
def Lq (a b : Blk) : Prop := a.2 < b.2 ∨ (a.2 = b.2 ∧ a.1 ≤ b.1)
theorem lessB_no {a b : Blk} (h : lessB a b = false) : Lq b a := by
  have : ¬ (a.2 < b.2 ∨ (a.2 = b.2 ∧ a.1 < b.1)) := by rw [← lessB_iff, h]; simp
  unfold Lq
  omega
theorem lessB_yes {a b : Blk} (h : lessB a b = true) : Lq a b := by
  have := (lessB_iff a b).1 h
  unfold Lq
  omega
theorem Lq.refl (a : Blk) : Lq a a := by unfold Lq; omega
theorem Lq.trans {a b c : Blk} (h : Lq a b) (k : Lq b c) : Lq a c := by unfold Lq at *; omega
/-- The block in a place. -/
def nth (l : List Blk) (j : Nat) : Blk := l.getD j (0, 0)
theorem nth_get {l : List Blk} {j : Nat} (h : j < l.length) : l[j]? = some (nth l j) := by simp [nth, List.getD, List.getElem?_eq_getElem h]
theorem nth_set {l : List Blk} {j : Nat} (h : j < l.length) (b : Blk) (k : Nat) : nth (l.set j b) k = if k = j then b else nth l k := by
  unfold nth
  rw [List.getD_eq_getElem?_getD, List.getD_eq_getElem?_getD, List.getElem?_set]
  by_cases e : k = j
  · subst e; simp [h]
  · rw [if_neg e, if_neg (fun h => e h.symm)]
/-- Two are exchanged. -/
def swp2 (l : List Blk) (i j : Nat) : List Blk := (l.set i (nth l j)).set j (nth l i)
theorem swp2_length (l : List Blk) (i j : Nat) : (swp2 l i j).length = l.length := by simp [swp2]
theorem nth_swp2 {l : List Blk} {i j : Nat} (hi : i < l.length) (hj : j < l.length) (k : Nat) : nth (swp2 l i j) k = if k = j then nth l i else if k = i then nth l j else nth l k := by
  unfold swp2
  rw [nth_set (by simpa using hj), nth_set hi]
theorem swp2_perm {l : List Blk} {i j : Nat} (hi : i < l.length) (hj : j < l.length) : (swp2 l i j).Perm l := by
  have h := Array.swap_perm (xs := l.toArray) (i := i) (j := j) (by simpa using hi) (by simpa using hj)
  have h2 := h.toList
  rw [Array.swap_def] at h2
  have e1 : l[j] = nth l j := by have := nth_get hj; rw [List.getElem?_eq_getElem hj] at this; exact Option.some.inj this
  have e2 : l[i] = nth l i := by have := nth_get hi; rw [List.getElem?_eq_getElem hi] at this; exact Option.some.inj this
  simp at h2
  rw [e1, e2] at h2
  exact h2
/-- Above the places from k on (as far as n) stands nothing that is behind what is below it. -/
def HeapFrom (l : List Blk) (n k : Nat) : Prop := ∀ j c, k ≤ j → (c = 2 * j + 1 ∨ c = 2 * j + 2) → c < n → Lq (nth l j) (nth l c)
/-- .. but perhaps in place i, whose own place serves those below it. -/
def HeapBut (l : List Blk) (n k i : Nat) : Prop :=
  (∀ j c, k ≤ j → j ≠ i → (c = 2 * j + 1 ∨ c = 2 * j + 2) → c < n → Lq (nth l j) (nth l c)) ∧
  ∀ p c, k ≤ p → (i = 2 * p + 1 ∨ i = 2 * p + 2) → (c = 2 * i + 1 ∨ c = 2 * i + 2) → c < n → Lq (nth l p) (nth l c)
theorem heapBut_of {l : List Blk} {n k : Nat} (h : HeapFrom l n (k + 1)) : HeapBut l n k k :=
  ⟨fun j c hj hne hc hn => h j c (by omega) hc hn, fun p c hp hi _ _ => by omega⟩
theorem HeapBut.none {l : List Blk} {n k i : Nat} (h : HeapBut l n k i) (hi : n ≤ 2 * i + 1) : HeapFrom l n k := fun j c hj hc hn => by
  by_cases e : j = i
  · subst e; omega
  · exact h.1 j c hj e hc hn
theorem HeapBut.fits {l : List Blk} {n k i : Nat} (h : HeapBut l n k i) (h1 : 2 * i + 1 < n → Lq (nth l i) (nth l (2 * i + 1))) (h2 : 2 * i + 2 < n → Lq (nth l i) (nth l (2 * i + 2))) : HeapFrom l n k := fun j c hj hc hn => by
  by_cases e : j = i
  · subst e
    rcases hc with rfl | rfl
    · exact h1 hn
    · exact h2 hn
  · exact h.1 j c hj e hc hn
/-- One step down. -/
theorem HeapBut.down {l : List Blk} {n k i j : Nat} (h : HeapBut l n k i) (hk : k ≤ i) (hn : n ≤ l.length) (hj : j = 2 * i + 1 ∨ j = 2 * i + 2) (hjn : j < n)
    (hl : Lq (nth l j) (nth l i)) (ho : ∀ c, (c = 2 * i + 1 ∨ c = 2 * i + 2) → c < n → Lq (nth l j) (nth l c)) : HeapBut (swp2 l i j) n k j := by
  have hi : i < l.length := by omega
  have hj' : j < l.length := by omega
  refine ⟨fun a c ha hne hc hcn => ?_, fun p c hp hpj hc hcn => ?_⟩
  · rw [nth_swp2 hi hj', nth_swp2 hi hj']
    by_cases e : a = i
    · subst e
      rw [if_neg (by omega), if_pos rfl]
      by_cases ec : c = j
      · rw [if_pos ec]; exact hl
      · rw [if_neg ec, if_neg (by omega)]
        exact ho c hc hcn
    · rw [if_neg hne, if_neg e]
      by_cases ec : c = j
      · omega
      · rw [if_neg ec]
        by_cases ei : c = i
        · subst ei
          rw [if_pos rfl]
          exact h.2 a j ha hc hj hjn
        · rw [if_neg ei]
          exact h.1 a c ha e hc hcn
  · have : p = i := by omega
    subst this
    rw [nth_swp2 hi hj', nth_swp2 hi hj', if_neg (by omega), if_pos rfl, if_neg (by omega), if_neg (by omega)]
    exact h.1 j c (by omega) (by omega) hc hcn
/-- All but perhaps between place j and the one above it. -/
def HeapUp (l : List Blk) (j : Nat) : Prop :=
  (∀ p c, c ≠ j → (c = 2 * p + 1 ∨ c = 2 * p + 2) → c < l.length → Lq (nth l p) (nth l c)) ∧
  ∀ p c, (j = 2 * p + 1 ∨ j = 2 * p + 2) → (c = 2 * j + 1 ∨ c = 2 * j + 2) → c < l.length → Lq (nth l p) (nth l c)
theorem HeapUp.top {l : List Blk} (h : HeapUp l 0) : HeapFrom l l.length 0 := fun j c _ hc hn => h.1 j c (by omega) hc hn
theorem HeapUp.fits {l : List Blk} {i j : Nat} (h : HeapUp l j) (hj : j = 2 * i + 1 ∨ j = 2 * i + 2) (hl : Lq (nth l i) (nth l j)) : HeapFrom l l.length 0 := fun a c _ hc hn => by
  by_cases e : c = j
  · subst e
    have : a = i := by omega
    subst this
    exact hl
  · exact h.1 a c e hc hn
theorem HeapUp.up {l : List Blk} {i j : Nat} (h : HeapUp l j) (hj : j = 2 * i + 1 ∨ j = 2 * i + 2) (hjn : j < l.length) (hl : Lq (nth l j) (nth l i)) : HeapUp (swp2 l i j) i := by
  have hi : i < l.length := by omega
  refine ⟨fun p c hne hc hcn => ?_, fun p c hp hc hcn => ?_⟩
  · rw [swp2_length] at hcn
    rw [nth_swp2 hi hjn, nth_swp2 hi hjn]
    by_cases ec : c = j
    · have : p = i := by omega
      subst this
      rw [if_neg (by omega), if_pos rfl, if_pos ec]
      exact hl
    · rw [if_neg ec, if_neg hne]
      by_cases ep : p = j
      · subst ep
        rw [if_pos rfl]
        exact h.2 i c hj hc hcn
      · rw [if_neg ep]
        by_cases ei : p = i
        · subst ei
          rw [if_pos rfl]
          exact hl.trans (h.1 p c ec hc hcn)
        · rw [if_neg ei]
          exact h.1 p c ec hc hcn
  · rw [swp2_length] at hcn
    rw [nth_swp2 hi hjn, nth_swp2 hi hjn, if_neg (by omega), if_neg (by omega)]
    have hpi := h.1 p i (by omega) hp hi
    by_cases ec : c = j
    · rw [if_pos ec]; exact hpi
    · rw [if_neg ec, if_neg (by omega)]
      exact hpi.trans (h.1 i c ec hc hcn)
theorem heapUp_push {l : List Blk} (h : HeapFrom l l.length 0) (b : Blk) : HeapUp (l ++ [b]) l.length := by
  have e : ∀ k, k < l.length → nth (l ++ [b]) k = nth l k := fun k hk => by unfold nth; rw [List.getD_eq_getElem?_getD, List.getD_eq_getElem?_getD, List.getElem?_append_left hk]
  refine ⟨fun p c hne hc hcn => ?_, fun p c hp hc hcn => ?_⟩
  · rw [List.length_append, List.length_singleton] at hcn
    rw [e p (by omega), e c (by omega)]
    exact h p c (Nat.zero_le _) hc (by omega)
  · rw [List.length_append, List.length_singleton] at hcn
    omega
/-- The first one is ahead of all. -/
theorem heap_first {l : List Blk} {n : Nat} (h : HeapFrom l n 0) : ∀ j, j < n → Lq (nth l 0) (nth l j) := by
  intro j
  induction j using Nat.strongRecOn with
  | _ j ih =>
    intro hj
    by_cases h0 : j = 0
    · subst h0; exact Lq.refl _
    · exact (ih ((j - 1) / 2) (by omega) (by omega)).trans (h ((j - 1) / 2) j (Nat.zero_le _) (by omega) hj)
theorem heap_first_mem {l : List Blk} (h : HeapFrom l l.length 0) {b : Blk} (hb : b ∈ l) : Lq (nth l 0) b := by
  obtain ⟨j, hj, rfl⟩ := List.mem_iff_getElem.1 hb
  have := heap_first h j hj
  have e : nth l j = l[j] := by have := nth_get hj; rw [List.getElem?_eq_getElem hj] at this; exact (Option.some.inj this).symm
  rwa [e] at this
theorem nth_take {l : List Blk} {n j : Nat} (h : j < n) : nth (l.take n) j = nth l j := by
  unfold nth
  rw [List.getD_eq_getElem?_getD, List.getD_eq_getElem?_getD, List.getElem?_take, if_pos h]
theorem heap_take {l : List Blk} {n k : Nat} (h : HeapFrom l n k) : HeapFrom (l.take n) n k := fun j c hj hc hn => by
  rw [nth_take (by omega), nth_take hn]
  exact h j c hj hc hn
theorem take_last {l : List Blk} {n : Nat} (h : l.length = n + 1) : l.take n ++ [nth l n] = l := by
  have := List.take_append_getElem (l := l) (i := n) (by omega)
  have e : nth l n = l[n] := by have := nth_get (l := l) (j := n) (by omega); rw [List.getElem?_eq_getElem (by omega)] at this; exact (Option.some.inj this).symm
  rw [e, this, List.take_of_length_le (by omega)]
end Go.Proofs.YtlnmmklpccppmaaGreatDoor
namespace Go.Proofs.YtlnmmklpccppmaaGreatDoor
open Go.RowKit
def sumL (l : List Blk) : Int := (l.map fun b => sz b.2).sum
theorem sumL_snoc (l : List Blk) (b : Blk) : sumL (l ++ [b]) = sumL l + sz b.2 := by simp [sumL]
theorem sumL_bound : ∀ (l : List Blk), (∀ b ∈ l, 0 ≤ b.2 ∧ b.2 ≤ 8) → 0 ≤ sumL l ∧ sumL l ≤ 256 * l.length
  | [], _ => by simp [sumL]
  | b :: t, h => by
    have h1 := sumL_bound t fun c hc => h c (List.mem_cons_of_mem _ hc)
    have hb := h b (List.mem_cons_self ..)
    have h2 := sz_pos b.2
    have h3 := sz_le256 hb.1 hb.2
    have e : sumL (b :: t) = sz b.2 + sumL t := by simp [sumL]
    rw [e, List.length_cons]
    omega
/-- The place of the block that is taken, of the first ones. -/
def BestI (l : List Blk) (t : Int) (k : Nat) (a : Int) : Prop :=
  (a = -1 ∧ ∀ j, j < k → (nth l j).2 < t) ∨ ∃ p : Nat, a = (p : Int) ∧ p < k ∧ t ≤ (nth l p).2 ∧ ∀ j, j < k → t ≤ (nth l j).2 → (nth l p).2 < (nth l j).2 ∨ ((nth l p).2 = (nth l j).2 ∧ p ≤ j)
theorem BestI.small {l : List Blk} {t a : Int} {k : Nat} (h : BestI l t k a) (hk : (nth l k).2 < t) : BestI l t (k + 1) a := by
  rcases h with ⟨e, h⟩ | ⟨p, e, h1, h2, h3⟩
  · exact .inl ⟨e, fun j hj => by rcases Nat.lt_or_ge j k with h4 | h4; exact h j h4; rw [show j = k by omega]; exact hk⟩
  · exact .inr ⟨p, e, by omega, h2, fun j hj ht => by rcases Nat.lt_or_ge j k with h4 | h4; exact h3 j h4 ht; rw [show j = k by omega] at ht; omega⟩
theorem BestI.first {l : List Blk} {t : Int} {k : Nat} (h : BestI l t k (-1)) (hk : t ≤ (nth l k).2) : BestI l t (k + 1) (k : Int) := by
  rcases h with ⟨e, h⟩ | ⟨p, e, _⟩
  · exact .inr ⟨k, rfl, by omega, hk, fun j hj ht => by rcases Nat.lt_or_ge j k with h4 | h4; have := h j h4; omega; rw [show j = k by omega]; exact .inr ⟨rfl, Nat.le_refl _⟩⟩
  · omega
theorem BestI.more {l : List Blk} {t : Int} {k p : Nat} (h : BestI l t k (p : Int)) (hl : ¬ (nth l k).2 < (nth l p).2) : BestI l t (k + 1) (p : Int) := by
  rcases h with ⟨e, _⟩ | ⟨q, e, h1, h2, h3⟩
  · omega
  · obtain rfl : p = q := by omega
    exact .inr ⟨p, rfl, by omega, h2, fun j hj ht => by
      rcases Nat.lt_or_ge j k with h4 | h4
      · exact h3 j h4 ht
      · rw [show j = k by omega]; omega⟩
theorem BestI.lt {l : List Blk} {t : Int} {k p : Nat} (h : BestI l t k (p : Int)) : p < k := by
  rcases h with ⟨e, _⟩ | ⟨q, e, h1, _⟩ <;> omega
end Go.Proofs.YtlnmmklpccppmaaGreatDoor

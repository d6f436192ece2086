/-
  Plain mathematics of Next, Sure and Best as this program finds them. No program.
-/
import Derived.Test.YtbfamijlaoopaaaVwRefE
namespace Go.Proofs.Ytbfamijlaoopaaa
open Go.RowKit

/-! ### Next -/
theorem prim_range {n v : Int} (hn : isN n = true) (hv : isV v = true) : 1 ≤ prim n v ∧ prim n v ≤ n := by
  rw [prim_yes hn hv]
  have h0 := (isV_iff.1 hv).1
  rcases isN_cases hn with rfl | rfl | rfl <;> omega
/-- A number that is no node's is primary in no view. -/
theorem nextV_out {n v id : Int} (h : ¬ (1 ≤ id ∧ id ≤ n)) : nextV n v id = -1 := by
  rcases nextV_spec n v id with h1 | ⟨hn, hv, j, j1, j2, h3, h4, h5⟩
  · exact h1
  · unfold nextV
    rw [hn, hv]
    simp only [Bool.and_self, if_true]
    rcases nextFrom_spec n v id n.toNat 1 with ⟨e, _⟩ | ⟨i, _, _, _, f, g, _⟩
    · exact e
    · obtain ⟨a, b⟩ := prim_pos f g
      have := prim_range a b
      rw [f] at this
      exact absurd this h
/-- Where none of so many views has it as its primary there is none. -/
theorem nextV_none {n v id : Int} (h : ∀ j : Nat, 1 ≤ j → (j : Int) ≤ n → prim n (v + (j : Int)) ≠ id) : nextV n v id = -1 := by
  rcases nextV_spec n v id with h1 | ⟨_, _, j, j1, j2, _, h4, _⟩
  · exact h1
  · exact absurd h4 (h j j1 j2)
/-- In as many views as there are nodes each node is primary in one. -/
theorem prim_some {n v id : Int} (hn : isN n = true) (hid : 1 ≤ id ∧ id ≤ n) (h0 : 0 ≤ v) (h1 : v + n ≤ 900000000) : ∃ k : Nat, 1 ≤ k ∧ (k : Int) ≤ n ∧ prim n (v + (k : Int)) = id := by
  have hc := isN_cases hn
  obtain ⟨k, hk⟩ : ∃ k : Nat, (k : Int) = (id - 1 - v - 1) % n + 1 := ⟨((id - 1 - v - 1) % n + 1).toNat, by rcases hc with rfl | rfl | rfl <;> omega⟩
  refine ⟨k, by rcases hc with rfl | rfl | rfl <;> omega, by rcases hc with rfl | rfl | rfl <;> omega, ?_⟩
  rw [prim_yes hn (isV_iff.2 ⟨by omega, by rcases hc with rfl | rfl | rfl <;> omega⟩)]
  rcases hc with rfl | rfl | rfl <;> omega

/-! ### Enough -/
theorem enough_cnt {N : Nat} {l : List Int} (hn : isN (N : Int) = true) : enough (N : Int) l = decide (((N / 2 + 1 : Nat) : Int) ≤ ((cntN (fun k => decide (k ∈ l)) N : Nat) : Int)) := by
  rw [Bool.eq_iff_iff, enough_iff, decide_eq_true_eq]
  have := isN_cases hn
  simp only [hn, true_and]
  omega

/-! ### Sure: so many of a row -/
theorem countP_split {l : List Int} {p : Int → Bool} (i : Nat) : l.countP p = (l.take i).countP p + (l.drop i).countP p := by
  rw [← List.countP_append, List.take_append_drop]
/-- In a rising row: from one on all are as great. -/
theorem rise_many {l : List Int} (h : l.Pairwise (· ≤ ·)) {i : Nat} {t : Int} (ht : l[i]? = some t) : l.length - i ≤ l.countP (fun y => decide (t ≤ y)) := by
  rw [countP_split i]
  have h1 : (l.drop i).countP (fun y => decide (t ≤ y)) = (l.drop i).length := by
    rw [List.countP_eq_length]
    intro y hy
    obtain ⟨j, hj, rfl⟩ := List.getElem_of_mem hy
    rw [List.getElem_drop]
    have hi : i < l.length := by
      rcases Nat.lt_or_ge i l.length with h | h
      · exact h
      · rw [List.getElem?_eq_none h] at ht; cases ht
    rw [List.getElem?_eq_getElem hi] at ht
    injection ht with ht
    rw [← ht, decide_eq_true_eq]
    rcases Nat.eq_zero_or_pos j with rfl | hj0
    · exact Int.le_refl _
    · exact List.pairwise_iff_getElem.1 h i (i + j) hi (by simp at hj; omega) (by omega)
  rw [h1, List.length_drop]
  omega
/-- And of what is greater there are fewer. -/
theorem rise_few {l : List Int} (h : l.Pairwise (· ≤ ·)) {i : Nat} {t x : Int} (ht : l[i]? = some t) (hx : t < x) : l.countP (fun y => decide (x ≤ y)) ≤ l.length - (i + 1) := by
  have hi : i < l.length := by
    rcases Nat.lt_or_ge i l.length with h | h
    · exact h
    · rw [List.getElem?_eq_none h] at ht; cases ht
  rw [List.getElem?_eq_getElem hi] at ht
  injection ht with ht
  rw [countP_split (i + 1)]
  have h1 : (l.take (i + 1)).countP (fun y => decide (x ≤ y)) = 0 := by
    rw [List.countP_eq_zero]
    intro y hy
    obtain ⟨j, hj, rfl⟩ := List.getElem_of_mem hy
    rw [List.getElem_take, decide_eq_true_eq]
    have hj' : j ≤ i := by simp at hj; omega
    rcases Nat.lt_or_ge j i with hji | hji
    · have := List.pairwise_iff_getElem.1 h j i (by omega) hi hji
      omega
    · obtain rfl : j = i := by omega
      omega
  have h2 := List.countP_le_length (p := fun y => decide (x ≤ y)) (l := l.drop (i + 1))
  rw [List.length_drop] at h2
  omega
/-- What each node has: nothing below 0, the greatest that it told. -/
def hasN (l : List (Int × Int)) (k : Int) : Int := l.foldl (fun b a => if a.1 = k ∧ b < a.2 then a.2 else b) 0
theorem hasN_fold (k : Int) : ∀ (l : List (Int × Int)) (b : Int) (x : Int), x ≤ l.foldl (fun b a => if a.1 = k ∧ b < a.2 then a.2 else b) b ↔ x ≤ b ∨ hasA l x k = true
  | [], b, x => by simp [hasA]
  | a :: l, b, x => by
    rw [List.foldl_cons, hasN_fold k l]
    unfold hasA
    rw [List.any_cons, Bool.or_eq_true, Bool.and_eq_true, beq_iff_eq, decide_eq_true_eq]
    by_cases h : a.1 = k ∧ b < a.2
    · rw [if_pos h]
      constructor
      · rintro (h1 | h1)
        · exact .inr (.inl ⟨h.1, h1⟩)
        · exact .inr (.inr h1)
      · rintro (h1 | ⟨_, h1⟩ | h1)
        · exact .inl (by omega)
        · exact .inl h1
        · exact .inr h1
    · rw [if_neg h]
      constructor
      · rintro (h1 | h1)
        · exact .inl h1
        · exact .inr (.inr h1)
      · rintro (h1 | ⟨h2, h1⟩ | h1)
        · exact .inl h1
        · exact .inl (by have : ¬ b < a.2 := fun e => h ⟨h2, e⟩; omega)
        · exact .inr h1
theorem hasN_iff {l : List (Int × Int)} {k x : Int} (h : 0 < x) : x ≤ hasN l k ↔ hasA l x k = true := by
  unfold hasN
  rw [hasN_fold]
  constructor
  · rintro (h1 | h1)
    · omega
    · exact h1
  · exact .inr
theorem hasN_nonneg (l : List (Int × Int)) (k : Int) : 0 ≤ hasN l k := by
  unfold hasN
  rw [hasN_fold]
  exact .inl (Int.le_refl _)
theorem hasN_snoc {l : List (Int × Int)} {j : Nat} {a : Int × Int} (h : l[j]? = some a) (k : Int) : hasN (l.take (j + 1)) k = if a.1 = k then max (hasN (l.take j) k) a.2 else hasN (l.take j) k := by
  unfold hasN
  rw [List.take_add_one, h]
  simp only [Option.toList, List.foldl_append, List.foldl_cons, List.foldl_nil]
  generalize List.foldl _ (0 : Int) (List.take j l) = b
  by_cases h1 : a.1 = k
  · rw [if_pos h1]
    by_cases h2 : b < a.2
    · rw [if_pos ⟨h1, h2⟩]; omega
    · rw [if_neg fun e => h2 e.2]; omega
  · rw [if_neg h1, if_neg fun e => h1 e.1]
/-- The row of what all have: the own first, then each node's. -/
def haves (N : Nat) (own : Int) (l : List (Int × Int)) : List Int := max own 0 :: (List.range N).map fun i => hasN l ((i + 1 : Nat) : Int)
theorem haves_len (N : Nat) (own : Int) (l : List (Int × Int)) : (haves N own l).length = N + 1 := by simp [haves]
theorem count_range (p : Int → Bool) : ∀ N : Nat, ((List.range N).map fun i => ((i + 1 : Nat) : Int)).countP p = cntN p N
  | 0 => rfl
  | N + 1 => by
    rw [List.range_succ, List.map_append, List.countP_append, count_range p N, cntN_succ]
    simp [List.countP_cons]
theorem haves_count {N : Nat} {own x : Int} {l : List (Int × Int)} (hx : 0 < x) : (haves N own l).countP (fun y => decide (x ≤ y)) = cntS N own l x := by
  unfold haves cntS
  rw [List.countP_cons, Nat.add_comm]
  congr 1
  · by_cases h : x ≤ own
    · rw [if_pos h, if_pos (by rw [decide_eq_true_eq]; omega)]
    · rw [if_neg h, if_neg (by rw [decide_eq_true_eq]; omega)]
  · rw [← count_range, List.countP_map, List.countP_map]
    congr 1
    funext i
    simp only [Function.comp]
    rw [Bool.eq_iff_iff, decide_eq_true_eq]
    exact hasN_iff hx
/-- What stands so far from the end of the row that rises is sure. -/
theorem haves_sure {N : Nat} {own t : Int} {l : List (Int × Int)} {r : List Int} (hn : isN (N : Int) = true) (hp : r.Perm (haves N own l)) (hr : r.Pairwise (· ≤ ·)) (ht : r[N + 1 - (N / 2 + 1)]? = some t) : sureV (N : Int) own l = t := by
  have hlen : r.length = N + 1 := by rw [hp.length_eq, haves_len]
  have hN := isN_cases hn
  have hmem : t ∈ r := List.mem_of_getElem? ht
  have h0 : 0 ≤ t := by
    have := hp.mem_iff.1 hmem
    unfold haves at this
    rw [List.mem_cons, List.mem_map] at this
    rcases this with rfl | ⟨i, _, rfl⟩
    · omega
    · exact hasN_nonneg _ _
  refine sureV_is hn h0 ?_ ?_
  · rcases Int.lt_or_eq_of_le h0 with h1 | h1
    · refine .inr ?_
      rw [Int.toNat_natCast, ← haves_count h1, ← hp.countP_eq]
      have := rise_many hr ht
      rw [hlen] at this
      omega
    · exact .inl h1.symm
  · intro x hx
    rw [Int.toNat_natCast, ← haves_count (by omega), ← hp.countP_eq]
    have := rise_few hr ht hx
    rw [hlen] at this
    omega

/-! ### Best -/
/-- How two votes are held against one another: above 0, 0, below it. -/
def cmpV (a b : Vt) : Int := if a.nm < b.nm then -1 else if b.nm < a.nm then 1 else if a.n < b.n then -1 else if b.n < a.n then 1 else 0
theorem cmpV_gt (a b : Vt) : decide (0 < cmpV a b) = gtv a b := by
  unfold cmpV gtv
  rw [Bool.eq_iff_iff, decide_eq_true_eq]
  simp only [Bool.or_eq_true, Bool.and_eq_true, decide_eq_true_eq]
  repeat' split <;> omega
theorem cmpV_zero (a b : Vt) : cmpV a b = 0 ↔ a.nm = b.nm ∧ a.n = b.n := by
  unfold cmpV
  repeat' split <;> omega
theorem bestP_succ (l : List Vt) {k : Nat} (h : 0 < k) : bestP l (k + 1) = if gtv (l.getD k zvt) (l.getD (bestP l k).toNat zvt) then (k : Int) else bestP l k := by
  have := (bestP_spec l k h).1
  rw [bestP]
  by_cases hg : gtv (l.getD k zvt) (l.getD (bestP l k).toNat zvt) = true
  · rw [if_pos (.inr hg), if_pos hg]
  · rw [if_neg (by rintro (h | h); (omega); (exact hg h)), if_neg hg]
end Go.Proofs.Ytbfamijlaoopaaa

/-
  What is sure, and the best vote. Plain mathematics; rows of acks and of votes in memory.
-/
import Derived.Test.YtbfamijlaoopaaaVwMath
namespace Go.Proofs.Ytbfamijlaoopaaa
open Go.RowKit

/-! ### Acks -/
def hasA (l : List (Int × Int)) (x k : Int) : Bool := l.any fun a => a.1 == k && decide (x ≤ a.2)
theorem hasA_iff {l : List (Int × Int)} {x k : Int} : hasA l x k = true ↔ ∃ a ∈ l, a.1 = k ∧ x ≤ a.2 := by simp [hasA]
def cntS (n : Nat) (own : Int) (l : List (Int × Int)) (x : Int) : Nat := (if x ≤ own then 1 else 0) + cntN (hasA l x) n
def sureStep (n : Nat) (own : Int) (l : List (Int × Int)) (b x : Int) : Int := if b < x ∧ n < 2 * cntS n own l x then x else b
def cands (own : Int) (l : List (Int × Int)) : List Int := own :: l.map (·.2)
def sureV (n own : Int) (l : List (Int × Int)) : Int := if isN n then (cands own l).foldl (sureStep n.toNat own l) 0 else 0
theorem sure_fold (n : Nat) (own : Int) (l : List (Int × Int)) : ∀ (cs : List Int) (b : Int), b ≤ cs.foldl (sureStep n own l) b ∧ (cs.foldl (sureStep n own l) b = b ∨ n < 2 * cntS n own l (cs.foldl (sureStep n own l) b)) ∧ ∀ x ∈ cs, n < 2 * cntS n own l x → x ≤ cs.foldl (sureStep n own l) b
  | [], b => ⟨Int.le_refl _, .inl rfl, fun x hx => by cases hx⟩
  | c :: cs, b => by
    rw [List.foldl_cons]
    obtain ⟨h1, h2, h3⟩ := sure_fold n own l cs (sureStep n own l b c)
    have hs : b ≤ sureStep n own l b c ∧ (sureStep n own l b c = b ∨ n < 2 * cntS n own l (sureStep n own l b c)) ∧ (n < 2 * cntS n own l c → c ≤ sureStep n own l b c) := by
      unfold sureStep
      split
      · rename_i h
        exact ⟨by omega, .inr h.2, fun _ => Int.le_refl _⟩
      · rename_i h
        exact ⟨Int.le_refl _, .inl rfl, fun h4 => by
          by_cases h5 : b < c
          · exact absurd ⟨h5, h4⟩ h
          · omega⟩
    refine ⟨by omega, ?_, fun x hx h4 => ?_⟩
    · rcases h2 with h2 | h2
      · rw [h2]; exact hs.2.1
      · exact .inr h2
    · rcases List.mem_cons.1 hx with rfl | hx
      · have := hs.2.2 h4; omega
      · exact h3 x hx h4
theorem least_of : ∀ {l : List Int}, l ≠ [] → ∃ y ∈ l, ∀ c ∈ l, y ≤ c
  | [], h => absurd rfl h
  | [a], _ => ⟨a, by simp, fun c hc => by simp at hc; omega⟩
  | a :: b :: r, _ => by
    obtain ⟨y, hy, hl⟩ := least_of (l := b :: r) (by simp)
    by_cases h : a ≤ y
    · exact ⟨a, by simp, fun c hc => by
        rcases List.mem_cons.1 hc with rfl | hc
        · omega
        · have := hl c hc; omega⟩
    · exact ⟨y, List.mem_cons_of_mem _ hy, fun c hc => by
        rcases List.mem_cons.1 hc with rfl | hc
        · omega
        · exact hl c hc⟩
/-- As many have what a candidate tells. -/
theorem cntS_cand (n : Nat) (own : Int) (l : List (Int × Int)) (x : Int) : cntS n own l x = 0 ∨ ∃ y ∈ cands own l, x ≤ y ∧ cntS n own l x ≤ cntS n own l y := by
  by_cases hF : (cands own l).filter (fun c => decide (x ≤ c)) = []
  · left
    have hno : ∀ c ∈ cands own l, ¬ x ≤ c := fun c hc h => by
      have : c ∈ (cands own l).filter (fun c => decide (x ≤ c)) := List.mem_filter.2 ⟨hc, by simpa using h⟩
      rw [hF] at this
      cases this
    unfold cntS
    rw [if_neg (hno own (List.mem_cons_self ..))]
    have : cntN (hasA l x) n = cntN (fun _ => false) n := cntN_congr fun j _ _ => by
      cases h : hasA l x (j : Int)
      · rfl
      · obtain ⟨a, ha, _, hx⟩ := hasA_iff.1 h
        exact absurd hx (hno a.2 (List.mem_cons_of_mem _ (List.mem_map_of_mem ha)))
    rw [this]
    have h0 : ∀ k, cntN (fun _ => false) k = 0 := fun k => by
      induction k with
      | zero => rfl
      | succ k ih => rw [cntN_succ, ih]; rfl
    rw [h0]
  · right
    obtain ⟨y, hy, hl⟩ := least_of hF
    have hy' := List.mem_filter.1 hy
    have hxy : x ≤ y := by simpa using hy'.2
    have hle : ∀ c ∈ cands own l, x ≤ c → y ≤ c := fun c hc h => hl c (List.mem_filter.2 ⟨hc, by simpa using h⟩)
    refine ⟨y, hy'.1, hxy, ?_⟩
    unfold cntS
    have h1 : cntN (hasA l x) n ≤ cntN (hasA l y) n := cntN_mono fun j _ _ h => by
      obtain ⟨a, ha, h2, h3⟩ := hasA_iff.1 h
      exact hasA_iff.2 ⟨a, ha, h2, hle a.2 (List.mem_cons_of_mem _ (List.mem_map_of_mem ha)) h3⟩
    by_cases ho : x ≤ own
    · rw [if_pos ho, if_pos (hle own (List.mem_cons_self ..) ho)]
      omega
    · rw [if_neg ho]
      omega
/-- What is sure: the greatest number from 0 on that more than half have. -/
theorem sureV_spec {n own : Int} {l : List (Int × Int)} (hn : isN n = true) : 0 ≤ sureV n own l ∧ (sureV n own l = 0 ∨ n.toNat < 2 * cntS n.toNat own l (sureV n own l)) ∧ ∀ x, sureV n own l < x → ¬ n.toNat < 2 * cntS n.toNat own l x := by
  unfold sureV
  rw [if_pos hn]
  obtain ⟨h1, h2, h3⟩ := sure_fold n.toNat own l (cands own l) 0
  refine ⟨h1, h2, fun x hx hc => ?_⟩
  rcases cntS_cand n.toNat own l x with h | ⟨y, hy, hxy, hle⟩
  · omega
  · have := h3 y hy (by omega)
    omega
theorem sureV_is {n own : Int} {l : List (Int × Int)} (hn : isN n = true) {t : Int} (h0 : 0 ≤ t) (h1 : t = 0 ∨ n.toNat < 2 * cntS n.toNat own l t) (h2 : ∀ x, t < x → ¬ n.toNat < 2 * cntS n.toNat own l x) : sureV n own l = t := by
  obtain ⟨a, b, c⟩ := sureV_spec (own := own) (l := l) hn
  by_cases h3 : t < sureV n own l
  · rcases b with b | b
    · omega
    · exact absurd b (h2 _ h3)
  · by_cases h4 : sureV n own l < t
    · rcases h1 with h1 | h1
      · omega
      · exact absurd h1 (c _ h4)
    · omega
/-- What is sure, enough nodes have. -/
theorem sure_have {n id own : Int} {l : List (Int × Int)} (hn : isN n = true) (h1 : 1 ≤ id) (h2 : id ≤ n) (hid : ∀ a ∈ l, a.1 ≠ id) {r : List Int} (hr1 : sureV n own l ≤ own → id ∈ r) (hr2 : ∀ a ∈ l, sureV n own l ≤ a.2 → a.1 ∈ r) : sureV n own l = 0 ∨ enough n r = true := by
  obtain ⟨a, b, c⟩ := sureV_spec (own := own) (l := l) hn
  rcases b with b | b
  · exact .inl b
  · right
    obtain ⟨m, rfl⟩ : ∃ m : Nat, n = (m : Int) := ⟨n.toNat, by have := isN_cases hn; omega⟩
    obtain ⟨i, rfl⟩ : ∃ i : Nat, id = (i : Int) := ⟨id.toNat, by omega⟩
    rw [Int.toNat_natCast] at b
    refine enough_iff.2 ⟨hn, ?_⟩
    generalize sureV (m : Int) own l = s at *
    have hm : ∀ j : Nat, 1 ≤ j → j ≤ m → hasA l s (j : Int) = true → decide ((j : Int) ∈ r) = true := fun j _ _ h => by
      obtain ⟨a, ha, h3, h4⟩ := hasA_iff.1 h
      rw [decide_eq_true_eq, ← h3]
      exact hr2 a ha h4
    unfold cntS at b
    by_cases ho : s ≤ own
    · rw [if_pos ho] at b
      have := cntN_one (p := hasA l s) (q := fun k => decide (k ∈ r)) (i := i) (k := m) (by omega) (by omega) (by
        cases h : hasA l s (i : Int)
        · rfl
        · obtain ⟨a, ha, h3, _⟩ := hasA_iff.1 h
          exact absurd h3 (hid a ha)) (by simpa using hr1 ho) hm
      omega
    · rw [if_neg ho] at b
      have := cntN_mono (p := hasA l s) (q := fun k => decide (k ∈ r)) (k := m) hm
      omega

/-! ### Votes -/
/-- A vote: its numbers, and where its entries lie. -/
structure Vt where
  node : Int
  nm : Int
  b : Int
  n : Int
  c : Int
  eA : Option Addr
  en : Nat
  ec : Nat
/-- Its entries' slice. -/
def Vt.e (v : Vt) : Value := .slice v.eA v.en v.ec
def gtv (a b : Vt) : Bool := decide (b.nm < a.nm) || decide (a.nm = b.nm) && decide (b.n < a.n)
def zvt : Vt := ⟨0, 0, 0, 0, 0, none, 0, 0⟩
/-- The best of the first so many. -/
def bestP (l : List Vt) : Nat → Int
  | 0 => -1
  | k + 1 => if bestP l k < 0 ∨ gtv (l.getD k zvt) (l.getD (bestP l k).toNat zvt) = true then (k : Int) else bestP l k
theorem bestP_spec (l : List Vt) : ∀ k, 0 < k → 0 ≤ bestP l k ∧ bestP l k < k ∧ (∀ j : Nat, j < k → gtv (l.getD j zvt) (l.getD (bestP l k).toNat zvt) = false) ∧ ∀ j : Nat, (j : Int) < bestP l k → gtv (l.getD (bestP l k).toNat zvt) (l.getD j zvt) = true
  | 0, h => by omega
  | k + 1, _ => by
    have tr : ∀ {a b c : Vt}, gtv a b = true → gtv c b = false → gtv a c = true := fun {a b c} h1 h2 => by
      simp only [gtv, Bool.or_eq_true, Bool.and_eq_true, decide_eq_true_eq, Bool.or_eq_false_iff, Bool.and_eq_false_imp, decide_eq_false_iff_not] at h1 h2 ⊢
      omega
    have ir : ∀ a : Vt, gtv a a = false := fun a => by simp [gtv]
    have asy : ∀ {a b : Vt}, gtv a b = true → gtv b a = false := fun {a b} h => by
      simp only [gtv, Bool.or_eq_true, Bool.and_eq_true, decide_eq_true_eq, Bool.or_eq_false_iff, Bool.and_eq_false_imp, decide_eq_false_iff_not] at h ⊢
      omega
    unfold bestP
    by_cases hk : k = 0
    · subst hk
      rw [if_pos (.inl (by unfold bestP; omega))]
      refine ⟨by omega, by omega, fun j hj => ?_, fun j hj => by omega⟩
      obtain rfl : j = 0 := by omega
      exact ir _
    · obtain ⟨h1, h2, h3, h4⟩ := bestP_spec l k (by omega)
      by_cases hg : gtv (l.getD k zvt) (l.getD (bestP l k).toNat zvt) = true
      · rw [if_pos (.inr hg)]
        refine ⟨by omega, by omega, fun j hj => ?_, fun j hj => ?_⟩
        · rw [Int.toNat_natCast]
          by_cases e : j = k
          · subst e; exact ir _
          · exact asy (tr hg (h3 j (by omega)))
        · rw [Int.toNat_natCast]
          exact tr hg (h3 j (by omega))
      · rw [if_neg (by rintro (h | h); (omega); (exact hg h))]
        refine ⟨h1, by omega, fun j hj => ?_, h4⟩
        by_cases e : j = k
        · subst e; simpa using hg
        · exact h3 j (by omega)
/-- The first of the greatest is one alone. -/
theorem bestP_is {l : List Vt} {k : Nat} {i : Nat} (hi : i < k) (h1 : ∀ j : Nat, j < k → gtv (l.getD j zvt) (l.getD i zvt) = false) (h2 : ∀ j : Nat, j < i → gtv (l.getD i zvt) (l.getD j zvt) = true) : bestP l k = (i : Int) := by
  obtain ⟨a, b, c, d⟩ := bestP_spec l k (by omega)
  by_cases e : (i : Int) < bestP l k
  · have := d i e
    rw [h1 _ (by omega)] at this
    cases this
  · by_cases e2 : bestP l k < (i : Int)
    · have := h2 (bestP l k).toNat (by omega)
      rw [c i hi] at this
      cases this
    · omega
end Go.Proofs.Ytbfamijlaoopaaa

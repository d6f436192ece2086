/-
  Nodes, views, who are enough, what is sure, whose log is taken. Plain mathematics, no program.
-/
import Derived.Test.YtbfamijlaoopaaaRowC
namespace Go.Proofs.Ytbfamijlaoopaaa
open Go.RowKit

/-! ### Numbers of nodes, views, primaries -/
def isN (n : Int) : Bool := n == 3 || n == 5 || n == 7
def isV (v : Int) : Bool := decide (0 ≤ v) && decide (v ≤ 900000000)
theorem isN_cases {n : Int} (h : isN n = true) : n = 3 ∨ n = 5 ∨ n = 7 := by simpa [isN, or_assoc] using h
theorem isV_iff {v : Int} : isV v = true ↔ 0 ≤ v ∧ v ≤ 900000000 := by simp [isV]
def prim (n v : Int) : Int := if isN n && isV v then 1 + v % n else 0
theorem prim_yes {n v : Int} (hn : isN n = true) (hv : isV v = true) : prim n v = 1 + v % n := by simp [prim, hn, hv]
theorem prim_no {n v : Int} (h : isN n = false ∨ isV v = false) : prim n v = 0 := by rcases h with h | h <;> simp [prim, h]
theorem prim_pos {n v id : Int} (h : prim n v = id) (h0 : 0 < id) : isN n = true ∧ isV v = true := by
  cases hn : isN n <;> cases hv : isV v <;> simp [prim, hn, hv] at h <;> first | omega | simp
/-- The first of so many views behind one, from the k-th on, whose primary is this node. -/
def nextFrom (n v id : Int) : Nat → Nat → Int
  | _, 0 => -1
  | k, m + 1 => if prim n (v + (k : Int)) = id ∧ 0 < id then v + (k : Int) else nextFrom n v id (k + 1) m
def nextV (n v id : Int) : Int := if isN n && isV v then nextFrom n v id 1 n.toNat else -1
theorem nextFrom_spec (n v id : Int) : ∀ (m k : Nat), (nextFrom n v id k m = -1 ∧ ∀ j, k ≤ j → j < k + m → ¬ (prim n (v + (j : Int)) = id ∧ 0 < id)) ∨ ∃ j, k ≤ j ∧ j < k + m ∧ nextFrom n v id k m = v + (j : Int) ∧ prim n (v + (j : Int)) = id ∧ 0 < id ∧ ∀ i, k ≤ i → i < j → ¬ (prim n (v + (i : Int)) = id ∧ 0 < id)
  | 0, k => .inl ⟨rfl, fun j h1 h2 => by omega⟩
  | m + 1, k => by
    unfold nextFrom
    by_cases h : prim n (v + (k : Int)) = id ∧ 0 < id
    · rw [if_pos h]
      exact .inr ⟨k, Nat.le_refl _, by omega, rfl, h.1, h.2, fun i h1 h2 => by omega⟩
    · rw [if_neg h]
      rcases nextFrom_spec n v id m (k + 1) with ⟨h1, h2⟩ | ⟨j, h1, h2, h3, h4, h5, h6⟩
      · refine .inl ⟨h1, fun j a b => ?_⟩
        by_cases e : j = k
        · subst e; exact h
        · exact h2 j (by omega) (by omega)
      · refine .inr ⟨j, by omega, by omega, h3, h4, h5, fun i a b => ?_⟩
        by_cases e : i = k
        · subst e; exact h
        · exact h6 i (by omega) (by omega)
/-- What Next tells: none, or the first one. -/
theorem nextV_spec (n v id : Int) : nextV n v id = -1 ∨ (isN n = true ∧ isV v = true ∧ ∃ j : Nat, 1 ≤ j ∧ (j : Int) ≤ n ∧ nextV n v id = v + (j : Int) ∧ prim n (v + (j : Int)) = id ∧ ∀ i : Nat, 1 ≤ i → i < j → prim n (v + (i : Int)) ≠ id) := by
  unfold nextV
  cases hn : isN n
  · exact .inl rfl
  · cases hv : isV v
    · exact .inl rfl
    · simp only [Bool.and_self, if_true]
      rcases nextFrom_spec n v id n.toNat 1 with ⟨h1, _⟩ | ⟨j, h1, h2, h3, h4, h5, h6⟩
      · exact .inl h1
      · have := isN_cases hn
        exact .inr ⟨by simp, by simp, j, h1, by omega, h3, h4, fun i a b c => h6 i a b ⟨c, h5⟩⟩
/-- Where the first one lies, Next tells it. -/
theorem nextV_is {n v id : Int} {k : Nat} (hn : isN n = true) (hv : isV v = true) (h0 : 0 < id) (h1 : 1 ≤ k) (h2 : (k : Int) ≤ n) (hp : prim n (v + (k : Int)) = id) (hb : ∀ i : Nat, 1 ≤ i → i < k → prim n (v + (i : Int)) ≠ id) : nextV n v id = v + (k : Int) := by
  unfold nextV
  rw [hn, hv]
  simp only [Bool.and_self, if_true]
  rcases nextFrom_spec n v id n.toNat 1 with ⟨-, h⟩ | ⟨j, a, b, c, d, -, f⟩
  · exact absurd ⟨hp, h0⟩ (h k h1 (by omega))
  · have : j = k := by
      by_cases e : j < k
      · exact absurd d (hb j a e)
      · by_cases e2 : k < j
        · exact absurd ⟨hp, h0⟩ (f k h1 e2)
        · omega
    rw [c, this]
/-- Of as many views as there are nodes just one has a node as its primary. -/
theorem prim_turn {n v id : Int} (hn : isN n = true) (h0 : 0 ≤ v) (h1 : v ≤ 800000000) (hi : 1 ≤ id) (hi2 : id ≤ n) (k : Nat) (hk : 1 ≤ k) (hkn : (k : Int) ≤ n) : prim n (v + (k : Int)) = id ↔ (k : Int) = (id - 1 - v - 1) % n + 1 := by
  have := isN_cases hn
  rw [prim_yes hn (isV_iff.2 ⟨by omega, by omega⟩)]
  rcases this with rfl | rfl | rfl <;> omega

/-! ### So many of the numbers from 1 on -/
def cntN (p : Int → Bool) : Nat → Nat
  | 0 => 0
  | k + 1 => cntN p k + if p ((k + 1 : Nat) : Int) then 1 else 0
theorem cntN_succ (p : Int → Bool) (k : Nat) : cntN p (k + 1) = cntN p k + if p ((k + 1 : Nat) : Int) then 1 else 0 := rfl
theorem cntN_le (p : Int → Bool) : ∀ k, cntN p k ≤ k
  | 0 => Nat.le_refl _
  | k + 1 => by
    have := cntN_le p k
    unfold cntN
    split <;> omega
theorem cntN_congr {p q : Int → Bool} : ∀ {k : Nat}, (∀ j : Nat, 1 ≤ j → j ≤ k → p (j : Int) = q (j : Int)) → cntN p k = cntN q k
  | 0, _ => rfl
  | k + 1, h => by
    unfold cntN
    rw [cntN_congr fun j a b => h j a (by omega), h (k + 1) (by omega) (by omega)]
theorem cntN_mono {p q : Int → Bool} : ∀ {k : Nat}, (∀ j : Nat, 1 ≤ j → j ≤ k → p (j : Int) = true → q (j : Int) = true) → cntN p k ≤ cntN q k
  | 0, _ => Nat.le_refl _
  | k + 1, h => by
    have ih := cntN_mono (p := p) (q := q) (k := k) fun j a b => h j a (by omega)
    have h1 := h (k + 1) (by omega) (by omega)
    unfold cntN
    cases hp : p ((k + 1 : Nat) : Int)
    · simp; omega
    · rw [h1 hp]; simp; omega
/-- Two that are more than all together meet. -/
theorem cntN_meet (p q : Int → Bool) : ∀ {k : Nat}, k < cntN p k + cntN q k → ∃ j : Nat, 1 ≤ j ∧ j ≤ k ∧ p (j : Int) = true ∧ q (j : Int) = true
  | 0, h => by simp [cntN] at h
  | k + 1, h => by
    unfold cntN at h
    by_cases hb : p ((k + 1 : Nat) : Int) = true ∧ q ((k + 1 : Nat) : Int) = true
    · exact ⟨k + 1, by omega, by omega, hb.1, hb.2⟩
    · have : k < cntN p k + cntN q k := by
        cases hp : p ((k + 1 : Nat) : Int) <;> cases hq : q ((k + 1 : Nat) : Int) <;> rw [hp, hq] at h <;> simp only [if_true, Bool.false_eq_true, if_false] at h
        · omega
        · omega
        · omega
        · exact absurd ⟨hp, hq⟩ hb
      obtain ⟨j, a, b, c, d⟩ := cntN_meet p q this
      exact ⟨j, a, by omega, c, d⟩
theorem cntN_not (p : Int → Bool) : ∀ k : Nat, cntN p k + cntN (fun i => !p i) k = k
  | 0 => rfl
  | k + 1 => by
    have := cntN_not p k
    unfold cntN
    cases p ((k + 1 : Nat) : Int) <;> simp <;> omega
/-- One more is among them. -/
theorem cntN_one {p q : Int → Bool} {i : Nat} : ∀ {k : Nat}, 1 ≤ i → i ≤ k → p (i : Int) = false → q (i : Int) = true → (∀ j : Nat, 1 ≤ j → j ≤ k → p (j : Int) = true → q (j : Int) = true) → cntN p k + 1 ≤ cntN q k
  | 0, h1, h2, _, _, _ => by omega
  | k + 1, h1, h2, hp, hq, h => by
    unfold cntN
    by_cases e : i = k + 1
    · subst e
      have := cntN_mono (p := p) (q := q) (k := k) fun j a b => h j a (by omega)
      rw [hp, hq]
      simp
      omega
    · have ih := cntN_one (p := p) (q := q) (k := k) h1 (by omega) hp hq fun j a b => h j a (by omega)
      have h3 := h (k + 1) (by omega) (by omega)
      cases hp' : p ((k + 1 : Nat) : Int)
      · simp; omega
      · rw [h3 hp']; simp; omega
/-- Beyond the nodes none is counted. -/
theorem cntN_cap {p : Int → Bool} {n : Nat} : ∀ {k : Nat}, n ≤ k → cntN (fun i => decide (i ≤ (n : Int)) && p i) k = cntN p n
  | 0, h => by
    obtain rfl : n = 0 := by omega
    rfl
  | k + 1, h => by
    by_cases e : n = k + 1
    · subst e
      exact cntN_congr fun j a b => by simp; omega
    · rw [cntN_succ, cntN_cap (by omega), show decide (((k + 1 : Nat) : Int) ≤ (n : Int)) = false by simp; omega]
      simp

/-! ### Who are enough -/
def enough (n : Int) (l : List Int) : Bool := isN n && decide (n < 2 * (cntN (fun k => decide (k ≤ n) && decide (k ∈ l)) 7 : Int))
theorem enough_iff {n : Nat} {l : List Int} : enough (n : Int) l = true ↔ isN (n : Int) = true ∧ n < 2 * cntN (fun k => decide (k ∈ l)) n := by
  unfold enough
  rw [Bool.and_eq_true, decide_eq_true_eq]
  constructor
  · rintro ⟨h1, h2⟩
    have := isN_cases h1
    rw [cntN_cap (p := fun k => decide (k ∈ l)) (by omega)] at h2
    exact ⟨h1, by omega⟩
  · rintro ⟨h1, h2⟩
    have := isN_cases h1
    rw [cntN_cap (p := fun k => decide (k ∈ l)) (by omega)]
    exact ⟨h1, by omega⟩
theorem enough_nat {n : Int} {l : List Int} (h : enough n l = true) : ∃ m : Nat, n = (m : Int) := by
  unfold enough at h
  rw [Bool.and_eq_true] at h
  exact ⟨n.toNat, by have := isN_cases h.1; omega⟩
/-- Two rows that are enough meet. -/
theorem enough_meet {n : Int} {a b : List Int} (ha : enough n a = true) (hb : enough n b = true) : ∃ x : Int, x ∈ a ∧ x ∈ b ∧ 1 ≤ x ∧ x ≤ n := by
  obtain ⟨m, rfl⟩ := enough_nat ha
  have h1 := (enough_iff.1 ha).2
  have h2 := (enough_iff.1 hb).2
  obtain ⟨j, j1, j2, j3, j4⟩ := cntN_meet (fun k => decide (k ∈ a)) (fun k => decide (k ∈ b)) (k := m) (by omega)
  exact ⟨j, by simpa using j3, by simpa using j4, by omega, by omega⟩
/-- Of a row and what is not in it just one is enough. -/
theorem enough_halves {n : Int} {a b : List Int} (hn : isN n = true) (h : ∀ x : Int, 1 ≤ x → x ≤ n → (x ∈ b ↔ ¬ x ∈ a)) : enough n a ≠ enough n b := by
  obtain ⟨m, rfl⟩ : ∃ m : Nat, n = (m : Int) := ⟨n.toNat, by have := isN_cases hn; omega⟩
  have h1 := cntN_not (fun k => decide (k ∈ a)) m
  have h2 : cntN (fun i => !(decide (i ∈ a))) m = cntN (fun k => decide (k ∈ b)) m := cntN_congr fun j a1 b1 => by
    have := h (j : Int) (by omega) (by omega)
    by_cases hm : (j : Int) ∈ a <;> simp [hm, this]
  have h3 := isN_cases hn
  intro he
  have e1 := @enough_iff m a
  have e2 := @enough_iff m b
  rw [he] at e1
  have e3 : (isN (m : Int) = true ∧ m < 2 * cntN (fun k => decide (k ∈ a)) m) ↔ (isN (m : Int) = true ∧ m < 2 * cntN (fun k => decide (k ∈ b)) m) := e1.symm.trans e2
  rw [hn] at e3
  simp only [true_and] at e3
  omega
end Go.Proofs.Ytbfamijlaoopaaa

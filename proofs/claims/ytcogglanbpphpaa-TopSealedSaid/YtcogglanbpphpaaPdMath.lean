/-
  Plain mathematics of a disk of sectors: what each call makes of it. No program, no condition.
-/
import Derived.Test.YtcogglanbpphpaaPdMem
namespace Go.Proofs.Ytcogglanbpphpaa

/-- A call that answers OK is counted. -/
def didS (S : Dk) : Dk := if 0 < S.left then { S with left := S.left - 1, down := decide (S.left - 1 = 0) } else S
def remH (S : Dk) (k : Nat) : Nat → Option (List UInt8) := fun j => if j = k then some ((S.had k).getD (S.now k)) else S.had j
def putS (S : Dk) (k : Nat) (l : List UInt8) : Dk := { S with now := fun j => if j = k then full l else S.now j, had := remH S k }
def wrS (n : Nat) (S : Dk) (a : Int) (l : List UInt8) : Dk := if S.down = false ∧ (0 ≤ a ∧ a < n) ∧ l.length ≤ 64 then didS (putS S a.toNat l) else S
def wrE (n : Nat) (S : Dk) (a : Int) (l : List UInt8) : Int := if S.down then 70 else if ¬ (0 ≤ a ∧ a < n) then 71 else if 64 < l.length then 1 else 0
def flS (S : Dk) : Dk := if S.down then S else didS { S with had := fun _ => none }
def flE (S : Dk) : Int := if S.down then 70 else 0
def stS (S : Dk) (m : Int) : Dk := if S.down = false ∧ 0 ≤ m ∧ m ≤ 1000000 then { S with left := m.toNat, down := decide (m = 0) } else S
def stE (S : Dk) (m : Int) : Int := if S.down then 70 else if ¬ (0 ≤ m ∧ m ≤ 1000000) then 1 else 0
/-- What sectors have behind the first i of the rising places ks. -/
def lost (keep : List Bool) (ks : List Nat) (i j : Nat) : Bool := (List.range i).any fun t => decide (ks[t]? = some j) && !keep.getD t false
def crN (keep : List Bool) (had : Nat → Option (List UInt8)) (ks : List Nat) (i : Nat) (now : Nat → List UInt8) : Nat → List UInt8 := fun j => if lost keep ks i j then (had j).getD zs else now j
def crS (S : Dk) (keep : List Bool) (ks : List Nat) : Dk := { now := crN keep S.had ks ks.length S.now, had := fun _ => none, down := false, left := 0 }
/-- The places of dirty sectors, rising. -/
def Dirty (had : Nat → Option (List UInt8)) (ks : List Nat) : Prop := ks.Pairwise (· < ·) ∧ ∀ k, k ∈ ks ↔ (had k).isSome = true

theorem lost_zero (keep : List Bool) (ks : List Nat) (j : Nat) : lost keep ks 0 j = false := rfl
theorem lost_succ (keep : List Bool) (ks : List Nat) (i j : Nat) : lost keep ks (i + 1) j = (lost keep ks i j || (decide (ks[i]? = some j) && !keep.getD i false)) := by
  simp [lost, List.range_succ]
theorem crN_zero (keep : List Bool) (had : Nat → Option (List UInt8)) (ks : List Nat) (now : Nat → List UInt8) : crN keep had ks 0 now = now := by
  funext j
  simp [crN, lost_zero]
theorem crN_keep {keep : List Bool} {had : Nat → Option (List UInt8)} {ks : List Nat} {i : Nat} {now : Nat → List UInt8} (h : keep.getD i false = true) : crN keep had ks (i + 1) now = crN keep had ks i now := by
  funext j
  unfold crN
  rw [lost_succ, h]
  simp
theorem crN_lose {keep : List Bool} {had : Nat → Option (List UInt8)} {ks : List Nat} {i k : Nat} {now : Nat → List UInt8} (h : keep.getD i false = false) (hk : ks[i]? = some k) :
    crN keep had ks (i + 1) now = fun j => if j = k then (had k).getD zs else crN keep had ks i now j := by
  funext j
  unfold crN
  rw [lost_succ, h, hk]
  by_cases e : j = k
  · subst e
    simp
  · have : ¬ k = j := fun h => e h.symm
    simp [e, this]
/-- A sector that is not dirty stays; one that is has what it has or what it had. -/
theorem crN_clean {keep : List Bool} {had : Nat → Option (List UInt8)} {ks : List Nat} (hk : Dirty had ks) (i : Nat) (now : Nat → List UInt8) {j : Nat} (hj : had j = none) : crN keep had ks i now j = now j := by
  unfold crN
  have : lost keep ks i j = false := by
    unfold lost
    rw [List.any_eq_false]
    intro t _ h
    simp at h
    have := (hk.2 j).1 (List.mem_of_getElem? h.1)
    rw [hj] at this
    cases this
  rw [this]
  rfl
theorem crN_two (keep : List Bool) (had : Nat → Option (List UInt8)) (ks : List Nat) (i : Nat) (now : Nat → List UInt8) (j : Nat) : crN keep had ks i now j = now j ∨ crN keep had ks i now j = (had j).getD zs := by
  unfold crN
  split
  · exact .inr rfl
  · exact .inl rfl
/-- Who keeps nothing has what was there. -/
theorem crN_none {had : Nat → Option (List UInt8)} {ks : List Nat} (hk : Dirty had ks) (now : Nat → List UInt8) {j : Nat} {x : List UInt8} (hj : had j = some x) : crN [] had ks ks.length now j = x := by
  have : lost [] ks ks.length j = true := by
    unfold lost
    rw [List.any_eq_true]
    obtain ⟨t, ht⟩ := List.mem_iff_getElem?.1 ((hk.2 j).2 (by rw [hj]; rfl))
    exact ⟨t, List.mem_range.2 (List.getElem?_eq_some_iff.1 ht).1, by simp [ht]⟩
  unfold crN
  rw [this, hj]
  rfl
/-- Who keeps all loses nothing. -/
theorem crN_all {keep : List Bool} {had : Nat → Option (List UInt8)} {ks : List Nat} (i : Nat) (now : Nat → List UInt8) (h : ∀ t, t < i → keep.getD t false = true) : crN keep had ks i now = now := by
  induction i with
  | zero => exact crN_zero _ _ _ _
  | succ i ih => rw [crN_keep (h i (by omega)), ih fun t ht => h t (by omega)]
/-- As many places as there are sectors, at most. -/
theorem rises_len : ∀ (n : Nat) (ks : List Nat), ks.Pairwise (· < ·) → (∀ k ∈ ks, k < n) → ks.length ≤ n := fun n ks hp hk => by
  have := nodup_len n (ks.map fun k : Nat => (k : Int)) (by
    refine List.pairwise_map.2 (hp.imp fun {a b} h => ?_)
    omega) (fun x hx => by
    obtain ⟨k, hk', rfl⟩ := List.mem_map.1 hx
    have := hk k hk'
    omega)
  simpa using this
end Go.Proofs.Ytcogglanbpphpaa

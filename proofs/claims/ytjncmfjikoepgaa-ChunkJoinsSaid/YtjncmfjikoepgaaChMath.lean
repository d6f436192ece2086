/-
  Package chunk: how many pieces a text has, how long each is, and which bytes; sums of pieces; right manifests. Plain mathematics, no program.
-/
import Derived.Test.YtjncmfjikoepgaaSumC
import Derived.Test.YtjncmfjikoepgaaVals
namespace Go.Proofs.Ytjncmfjikoepgaa
open Go.RowKit

/-- How many pieces a text of n bytes has. -/
def cnt (n : Nat) : Nat := (n + 79) / 80
/-- How long the k-th is. -/
def pln (n k : Nat) : Nat := min 80 (n - k * 80)
/-- The k-th piece. -/
def pce (s : ByteArray) (k : Nat) : ByteArray := s.extract (k * 80) (k * 80 + pln s.size k)
/-- The sum of a text. -/
def smv (s : ByteArray) : Nat := (sumOf s.data.toList).toNat
/-- The sums of so many pieces. -/
def smsTo (s : ByteArray) (k : Nat) : List Int := (List.range k).map fun j => (smv (pce s j) : Int)
def sms (s : ByteArray) : List Int := smsTo s (cnt s.size)
theorem smv_le (s : ByteArray) : smv s ≤ 4294967295 := by
  have := (sumOf s.data.toList).isLt
  unfold smv
  omega
theorem cnt_lt {n k : Nat} : k < cnt n ↔ k * 80 < n := by unfold cnt; omega
theorem cnt_le {n : Nat} (h : n ≤ 65536) : cnt n ≤ 820 := by unfold cnt; omega
theorem pln_pos {n k : Nat} (h : k < cnt n) : 1 ≤ pln n k := by rw [cnt_lt] at h; unfold pln; omega
theorem pln_le (n k : Nat) : pln n k ≤ 80 := by unfold pln; omega
theorem pln_in {n k : Nat} (h : k < cnt n) : k * 80 + pln n k ≤ n := by rw [cnt_lt] at h; unfold pln; omega
theorem size_ext (s : ByteArray) {a b : Nat} (h : b ≤ s.size) : (s.extract a b).size = b - a := by
  rw [ByteArray.size_extract, Nat.min_eq_left h]
theorem pce_size {s : ByteArray} {k : Nat} (h : k < cnt s.size) : (pce s k).size = pln s.size k := by
  unfold pce
  rw [size_ext s (pln_in h)]
  omega
theorem smsTo_length (s : ByteArray) (k : Nat) : (smsTo s k).length = k := by simp [smsTo]
theorem smsTo_succ (s : ByteArray) (k : Nat) : smsTo s (k + 1) = smsTo s k ++ [(smv (pce s k) : Int)] := by simp [smsTo, List.range_succ]
theorem sms_length (s : ByteArray) : (sms s).length = cnt s.size := smsTo_length _ _
theorem sms_get {s : ByteArray} {k : Nat} (h : k < cnt s.size) : (sms s)[k]? = some (smv (pce s k) : Int) := by
  simp [sms, smsTo, h]

/-- A manifest is right. -/
def RightM (n : Int) (z : List Int) : Prop := (0 ≤ n ∧ n ≤ 65536) ∧ z.length = cnt n.toNat ∧ ∀ x ∈ z, 0 ≤ x ∧ x ≤ 4294967295
instance (n : Int) (z : List Int) : Decidable (RightM n z) := by unfold RightM; infer_instance
/-- A piece fits in place i of a manifest that is right. -/
def FitM (n : Nat) (z : List Int) (i : Int) (p : ByteArray) : Prop := (0 ≤ i ∧ i < z.length) ∧ p.size = pln n i.toNat ∧ z[i.toNat]? = some (smv p : Int)
instance (n : Nat) (z : List Int) (i : Int) (p : ByteArray) : Decidable (FitM n z i p) := by unfold FitM; infer_instance
theorem right_sms {s : ByteArray} (h : s.size ≤ 65536) : RightM s.size (sms s) :=
  ⟨by omega, by rw [sms_length, Int.toNat_natCast], fun x hx => by
    simp only [sms, smsTo, List.mem_map] at hx
    obtain ⟨j, _, rfl⟩ := hx
    have := smv_le (pce s j)
    omega⟩
theorem fit_pce {s : ByteArray} {k : Nat} (h : k < cnt s.size) : FitM s.size (sms s) k (pce s k) :=
  ⟨⟨by omega, by rw [sms_length]; omega⟩, by rw [Int.toNat_natCast, pce_size h], by rw [Int.toNat_natCast, sms_get h]⟩

/-- Numbers as cells. -/
def ivs (l : List Int) : List Value := l.map fun k : Int => .int .i64 k
theorem ivs_length (l : List Int) : (ivs l).length = l.length := by simp [ivs]
theorem ivs_append (l m : List Int) : ivs (l ++ m) = ivs l ++ ivs m := by simp [ivs]
theorem ivs_get {l : List Int} {j : Nat} {v : Value} (h : (ivs l)[j]? = some v) : ∃ k : Int, l[j]? = some k ∧ v = .int .i64 k := by
  simp only [ivs, List.getElem?_map, Option.map_eq_some_iff] at h
  obtain ⟨x, hx, rfl⟩ := h
  exact ⟨x, hx, rfl⟩
/-- Texts as cells. -/
def tvs (l : List ByteArray) : List Value := l.map .string
theorem tvs_length (l : List ByteArray) : (tvs l).length = l.length := by simp [tvs]
theorem tvs_append (l m : List ByteArray) : tvs (l ++ m) = tvs l ++ tvs m := by simp [tvs]
theorem tvs_get {l : List ByteArray} {j : Nat} {v : Value} (h : (tvs l)[j]? = some v) : ∃ k, l[j]? = some k ∧ v = .string k := by
  simp only [tvs, List.getElem?_map, Option.map_eq_some_iff] at h
  obtain ⟨x, hx, rfl⟩ := h
  exact ⟨x, hx, rfl⟩
/-- Texts, one behind the other. -/
def cat : List ByteArray → ByteArray := fun l => l.foldl (· ++ ·) ⟨#[]⟩
theorem cat_nil : cat [] = ⟨#[]⟩ := rfl
theorem cat_snoc (l : List ByteArray) (s : ByteArray) : cat (l ++ [s]) = cat l ++ s := by simp [cat]
theorem cat_take {l : List ByteArray} {k : Nat} {s : ByteArray} (h : l[k]? = some s) : cat (l.take (k + 1)) = cat (l.take k) ++ s := by
  rw [List.take_add_one, h]
  exact cat_snoc _ _
end Go.Proofs.Ytjncmfjikoepgaa

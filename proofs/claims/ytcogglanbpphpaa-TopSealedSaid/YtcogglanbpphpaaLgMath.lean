/-
  Plain mathematics of a log's sectors: what a sector has, its bytes, and back; the pieces of records. No program, no condition.
-/
import Derived.Test.YtcogglanbpphpaaSumC
import Derived.Test.YtcogglanbpphpaaCdPlain
import Derived.Test.YtcogglanbpphpaaPdWr
namespace Go.Proofs.Ytcogglanbpphpaa
open Go.RowKit

/-- What a sector has: a kind, an age, a number, a place, a size, a text. -/
structure Ct where
  kd : Nat
  ag : Nat
  nu : Nat
  pl : Nat
  sz : Nat
  tx : List UInt8
def Ct.zero : Ct := ⟨0, 0, 0, 0, 0, []⟩
/-- Its head's numbers. -/
def Ct.hd (c : Ct) : List Nat := [c.kd, c.ag, c.nu, c.pl, c.sz]
/-- Numbers as bytes. -/
def nbs (l : List Nat) : List UInt8 := l.flatMap (be 4)
theorem nbs_nil : nbs [] = [] := rfl
theorem nbs_append (l m : List Nat) : nbs (l ++ m) = nbs l ++ nbs m := by simp [nbs]
theorem nbs_one (x : Nat) : nbs [x] = be 4 x := by simp [nbs]
theorem nbs_length (l : List Nat) : (nbs l).length = 4 * l.length := by
  induction l with
  | nil => rfl
  | cons x r ih =>
    have : nbs (x :: r) = be 4 x ++ nbs r := by simp [nbs]
    rw [this, List.length_append, be_length, ih]
    simp
    omega
def pad (n : Nat) (l : List UInt8) : List UInt8 := l ++ List.replicate (n - l.length) 0
theorem pad_length {n : Nat} {l : List UInt8} (h : l.length ≤ n) : (pad n l).length = n := by
  simp [pad]
  omega
def Ct.raw (c : Ct) : List UInt8 := nbs c.hd ++ be 4 c.tx.length ++ c.tx
theorem Ct.raw_length (c : Ct) : c.raw.length = 24 + c.tx.length := by
  simp [Ct.raw, nbs_length, Ct.hd, be_length]
  omega
/-- The sector's bytes. -/
def Ct.laid (c : Ct) : List UInt8 := sealOf (pad 60 c.raw)
/-- A root's or a piece's. -/
structure Ct.Ok (c : Ct) : Prop where
  k1 : 1 ≤ c.kd
  k2 : c.kd ≤ 2
  ag : c.ag ≤ 2147483647
  nu : c.nu ≤ 2147483647
  pl : c.pl ≤ 2147483647
  sz : c.sz ≤ 2147483647
  tx : c.tx.length ≤ 36
theorem Ct.Ok.len {c : Ct} (h : c.Ok) : c.laid.length = 64 := by
  have := h.tx
  rw [Ct.laid, sealOf, List.length_append, be_length, pad_length (by rw [Ct.raw_length]; omega)]
/-- A sector's bytes, and what it has. -/
def Sec (x : List UInt8) (c : Ct) : Prop := x = zs ∧ c = Ct.zero ∨ c.Ok ∧ x = c.laid
theorem Sec.len {x : List UInt8} {c : Ct} (h : Sec x c) : x.length = 64 := by
  rcases h with ⟨rfl, _⟩ | ⟨h, rfl⟩
  · exact zs_length
  · exact h.len
theorem sec_zero : Sec zs Ct.zero := .inl ⟨rfl, rfl⟩
/-- All bytes are 0. -/
def allz (l : List UInt8) : Bool := l.all fun x => x == 0
theorem allz_zs : allz zs = true := by simp [allz, zs]
theorem Ct.Ok.notz {c : Ct} (h : c.Ok) : allz c.laid = false := by
  have h1 := h.k1
  have h2 := h.k2
  have : c.laid[3]? = some (UInt8.ofNat c.kd) := by
    rw [Ct.laid, sealOf, pad, Ct.raw, Ct.hd]
    simp [nbs, be4]
  rw [allz, List.all_eq_false]
  refine ⟨_, List.mem_of_getElem? this, ?_⟩
  simp
  intro e
  have := congrArg UInt8.toNat e
  simp at this
  omega
/-- What stands behind the text are bytes 0. -/
theorem Ct.behind (c : Ct) : (pad 60 c.raw).drop (24 + c.tx.length) = List.replicate (60 - c.raw.length) 0 := by
  rw [pad, ← Ct.raw_length, List.drop_left]
theorem allz_reps (k : Nat) : allz (List.replicate k 0) = true := by simp [allz]
/-- How many sectors a record of so many bytes has. -/
def np (n : Nat) : Nat := max 1 ((n + 36 - 1) / 36)
theorem np_pos (n : Nat) : 1 ≤ np n := Nat.le_max_left _ _
theorem np_le {n : Nat} (h : n ≤ 72) : np n ≤ 2 := by unfold np; omega
end Go.Proofs.Ytcogglanbpphpaa

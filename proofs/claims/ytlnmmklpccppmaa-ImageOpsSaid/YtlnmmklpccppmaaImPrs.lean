/-
  What bytes begin with: readings that put together make readings of lists; what is laid is read, and what is read was laid so. Plain mathematics, no program.
-/
import Derived.Test.YtlnmmklpccppmaaCdPlain
namespace Go.Proofs.Ytlnmmklpccppmaa
open Go.RowKit

/-- What bytes begin with, and what is left of them. -/
abbrev Prs (α : Type) := List UInt8 → Option (α × List UInt8)
/-- What is laid is read, whatever stands behind it; what is read was laid so. -/
structure Codec {α : Type} (p : Prs α) (enc : α → List UInt8) (dom : α → Prop) : Prop where
  full : ∀ v r, dom v → p (enc v ++ r) = some (v, r)
  sound : ∀ l v r, p l = some (v, r) → dom v ∧ l = enc v ++ r

def IsNum (n : Int) : Prop := 0 ≤ n ∧ n ≤ 2147483647
def IsInt (n : Int) : Prop := -9223372036854775808 ≤ n ∧ n ≤ 9223372036854775807
def encN (n : Int) : List UInt8 := be 4 n.toNat
def encI (n : Int) : List UInt8 := be 8 (u64n n)
theorem encN_length (n : Int) : (encN n).length = 4 := be_length 4 _
theorem encI_length (n : Int) : (encI n).length = 8 := be_length 8 _
def pnum : Prs Int := fun l => if (rnum l).2.2 = 0 then some ((rnum l).1, l.drop 4) else none
def pint : Prs Int := fun l => if (rint l).2.2 = 0 then some ((rint l).1, l.drop 8) else none
theorem pnum_codec : Codec pnum encN IsNum where
  full v r h := by
    have h1 := rnum_put v.toNat (by have := h.2; omega) r
    have h2 : ((v.toNat : Nat) : Int) = v := Int.toNat_of_nonneg h.1
    unfold pnum encN
    rw [h1, if_pos rfl, drop_be, h2]
  sound l v r h := by
    unfold pnum at h
    split at h
    · rename_i h0
      obtain ⟨u, hu, hle, hbe, h4⟩ := rnum_one h0
      injection h with h
      injection h with e1 e2
      rw [hu] at e1
      simp only at e1
      subst e1
      refine ⟨⟨by omega, by omega⟩, ?_⟩
      unfold encN
      rw [Int.toNat_natCast, hbe, ← e2, List.take_append_drop]
    · cases h
theorem wrap64_in (n : Int) : IsInt (wrap64 n) := by unfold IsInt wrap64; omega
theorem pint_codec : Codec pint encI IsInt where
  full v r h := by
    have h1 := rint_put v h.1 h.2 r
    unfold pint encI
    rw [h1, if_pos rfl, drop_be]
  sound l v r h := by
    unfold pint at h
    split at h
    · rename_i h0
      obtain ⟨_, hbe, h8⟩ := rint_one h0
      injection h with h
      injection h with e1 e2
      refine ⟨?_, ?_⟩
      · rw [← e1, rint, if_neg (by omega)]
        exact wrap64_in _
      · unfold encI
        rw [← e1, hbe, ← e2, List.take_append_drop]
    · cases h
/-- What a number's reading does, by its three answers. -/
theorem pnum_some {l : List UInt8} {v : Int} {r : List UInt8} (h : pnum l = some (v, r)) : (rnum l).1 = v ∧ (rnum l).2.1 = 4 ∧ (rnum l).2.2 = 0 ∧ r = l.drop 4 ∧ IsNum v := by
  have hd := (pnum_codec.sound l v r h).1
  unfold pnum at h
  split at h
  · rename_i h0
    obtain ⟨u, hu, -⟩ := rnum_one h0
    injection h with h
    injection h with e1 e2
    exact ⟨e1, by rw [hu], h0, e2.symm, hd⟩
  · cases h
theorem pnum_none {l : List UInt8} (h : pnum l = none) : (rnum l).1 = 0 ∧ (rnum l).2.1 = 0 ∧ (rnum l).2.2 ≠ 0 := by
  unfold pnum at h
  split at h
  · cases h
  · rename_i h0
    unfold rnum at *
    split
    · exact ⟨rfl, rfl, by simp⟩
    · split
      · exact ⟨rfl, rfl, by simp⟩
      · rename_i h1 h2
        rw [if_neg h1, if_neg h2] at h0
        exact absurd rfl h0
theorem pint_some {l : List UInt8} {v : Int} {r : List UInt8} (h : pint l = some (v, r)) : (rint l).1 = v ∧ (rint l).2.1 = 8 ∧ (rint l).2.2 = 0 ∧ r = l.drop 8 ∧ IsInt v := by
  have hd := (pint_codec.sound l v r h).1
  unfold pint at h
  split at h
  · rename_i h0
    obtain ⟨hu, -⟩ := rint_one h0
    injection h with h
    injection h with e1 e2
    exact ⟨e1, hu, h0, e2.symm, hd⟩
  · cases h
theorem pint_none {l : List UInt8} (h : pint l = none) : (rint l).1 = 0 ∧ (rint l).2.1 = 0 ∧ (rint l).2.2 ≠ 0 := by
  unfold pint at h
  split at h
  · cases h
  · rename_i h0
    unfold rint at *
    split
    · exact ⟨rfl, rfl, by simp⟩
    · rename_i h1
      rw [if_neg h1] at h0
      exact absurd rfl h0

/-- So many, one behind the other. -/
def prep {α : Type} (p : Prs α) : Nat → Prs (List α)
  | 0, l => some ([], l)
  | n + 1, l => (p l).bind fun q => (prep p n q.2).bind fun s => some (q.1 :: s.1, s.2)
theorem prep_codec {α : Type} {p : Prs α} {enc : α → List UInt8} {dom : α → Prop} (c : Codec p enc dom) : ∀ n : Nat, Codec (prep p n) (fun vs => vs.flatMap enc) (fun vs => vs.length = n ∧ ∀ v ∈ vs, dom v)
  | 0 => ⟨fun v r h => by
      rw [List.eq_nil_of_length_eq_zero h.1]; rfl, fun l v r h => by
      injection h with h
      injection h with e1 e2
      subst e1 e2
      exact ⟨⟨rfl, fun v hv => by cases hv⟩, rfl⟩⟩
  | n + 1 => ⟨fun v r h => by
      match v, h with
      | a :: t, h =>
        have h1 := c.full a (t.flatMap enc ++ r) (h.2 a (List.mem_cons_self ..))
        have h2 := (prep_codec c n).full t r ⟨Nat.succ.inj h.1, fun v hv => h.2 v (List.mem_cons_of_mem _ hv)⟩
        show (p ((a :: t).flatMap enc ++ r)).bind _ = _
        rw [List.flatMap_cons, List.append_assoc, h1, Option.bind_some]
        simp only
        rw [h2]
        rfl, fun l v r h => by
      change (p l).bind _ = _ at h
      cases hp : p l with
      | none => rw [hp] at h; cases h
      | some q =>
        rw [hp, Option.bind_some] at h
        cases hq : prep p n q.2 with
        | none => rw [hq] at h; cases h
        | some s =>
          rw [hq, Option.bind_some] at h
          injection h with h
          injection h with e1 e2
          subst e1 e2
          obtain ⟨d1, e1⟩ := c.sound l q.1 q.2 hp
          obtain ⟨d2, e2⟩ := (prep_codec c n).sound q.2 s.1 s.2 hq
          refine ⟨⟨by rw [List.length_cons, d2.1], fun v hv => ?_⟩, ?_⟩
          · rcases List.mem_cons.1 hv with e | e
            · rw [e]; exact d1
            · exact d2.2 v e
          · rw [e1, List.flatMap_cons, List.append_assoc, ← e2]⟩
/-- One more at the end. -/
theorem prep_snoc {α : Type} {p : Prs α} : ∀ (n : Nat) (l : List UInt8), prep p (n + 1) l = (prep p n l).bind fun s => (p s.2).bind fun q => some (s.1 ++ [q.1], q.2)
  | 0, l => by
    show (p l).bind _ = _
    cases hp : p l with
    | none => simp [prep, hp]
    | some q => simp [prep, hp]
  | n + 1, l => by
    have ih := fun l => prep_snoc (p := p) n l
    show (p l).bind (fun q => (prep p (n + 1) q.2).bind fun s => some (q.1 :: s.1, s.2)) = ((p l).bind _).bind _
    cases hp : p l with
    | none => rfl
    | some q =>
      simp only [Option.bind_some]
      rw [ih]
      cases hq : prep p n q.2 with
      | none => rfl
      | some s =>
        simp only [Option.bind_some]
        cases hs : p s.2 with
        | none => rfl
        | some t => rfl
theorem prep_len {α : Type} {p : Prs α} : ∀ {n : Nat} {l : List UInt8} {vs : List α} {r : List UInt8}, prep p n l = some (vs, r) → vs.length = n
  | 0, l, vs, r, h => by
    injection h with h
    injection h with e1 e2
    subst e1
    rfl
  | n + 1, l, vs, r, h => by
    change (p l).bind _ = _ at h
    cases hp : p l with
    | none => rw [hp] at h; cases h
    | some q =>
      rw [hp, Option.bind_some] at h
      cases hq : prep p n q.2 with
      | none => rw [hq] at h; cases h
      | some s =>
        rw [hq, Option.bind_some] at h
        injection h with h
        injection h with e1 e2
        subst e1
        rw [List.length_cons, prep_len (vs := s.1) (r := s.2) hq]
theorem prep_step {α : Type} {p : Prs α} {n : Nat} {l : List UInt8} {vs : List α} {r : List UInt8} {v : α} {r' : List UInt8} (h : prep p n l = some (vs, r)) (k : p r = some (v, r')) : prep p (n + 1) l = some (vs ++ [v], r') := by
  rw [prep_snoc, h, Option.bind_some]
  simp only
  rw [k]
  rfl
theorem prep_stop {α : Type} {p : Prs α} {l : List UInt8} {vs : List α} {r : List UInt8} {m : Nat} (h : prep p m l = some (vs, r)) (k : p r = none) : ∀ {n : Nat}, m < n → prep p n l = none
  | n + 1, hn => by
    rcases Nat.lt_or_ge m n with h1 | h1
    · rw [prep_snoc, prep_stop h k h1]
      rfl
    · obtain rfl : m = n := by omega
      rw [prep_snoc, h, Option.bind_some]
      simp only
      rw [k]
      rfl
end Go.Proofs.Ytlnmmklpccppmaa

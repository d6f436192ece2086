/-
  Entries and messages: their cells, and when two are the same. Plain mathematics, no program.
-/
import Derived.Test.YtgkhjmdghmpfcaaVals
namespace Go.Proofs.Ytgkhjmdghmpfcaa
open Go.RowKit

/-! ### Rows of elements of so many cells each -/
section
variable {α : Type} {f : α → List Value} {K : Nat}
theorem fm_len (hf : ∀ x, (f x).length = K) : ∀ l : List α, (l.flatMap f).length = l.length * K
  | [] => by simp
  | x :: r => by rw [List.flatMap_cons, List.length_append, hf, fm_len hf r, List.length_cons, Nat.add_mul]; omega
theorem fm_take (hf : ∀ x, (f x).length = K) (l : List α) (k : Nat) : (l.flatMap f).take (k * K) = (l.take k).flatMap f := by
  by_cases h : k ≤ l.length
  · have e : l.flatMap f = (l.take k).flatMap f ++ (l.drop k).flatMap f := by rw [← List.flatMap_append, List.take_append_drop]
    have hl : ((l.take k).flatMap f).length = k * K := by rw [fm_len hf, List.length_take, Nat.min_eq_left h]
    rw [e, List.take_append_of_le_length (by omega), List.take_of_length_le (by omega)]
  · have h1 : l.length * K ≤ k * K := Nat.mul_le_mul_right _ (by omega)
    rw [List.take_of_length_le (by rw [fm_len hf]; exact h1), List.take_of_length_le (by omega)]
theorem fm_drop (hf : ∀ x, (f x).length = K) (l : List α) (k : Nat) : (l.flatMap f).drop (k * K) = (l.drop k).flatMap f := by
  by_cases h : k ≤ l.length
  · have e : l.flatMap f = (l.take k).flatMap f ++ (l.drop k).flatMap f := by rw [← List.flatMap_append, List.take_append_drop]
    have hl : ((l.take k).flatMap f).length = k * K := by rw [fm_len hf, List.length_take, Nat.min_eq_left h]
    rw [e, List.drop_append_of_le_length (by omega), List.drop_of_length_le (by omega), List.nil_append]
  · have h1 : l.length * K ≤ k * K := Nat.mul_le_mul_right _ (by omega)
    rw [List.drop_of_length_le (by rw [fm_len hf]; exact h1), List.drop_of_length_le (by omega)]
    rfl
theorem fm_get (hf : ∀ x, (f x).length = K) {l : List α} {j : Nat} {x : α} (h : l[j]? = some x) {i : Nat} {u : Value} (hu : (f x)[i]? = some u) : (l.flatMap f)[j * K + i]? = some u := by
  obtain ⟨hj, rfl⟩ := List.getElem?_eq_some_iff.1 h
  have hi : i < (f l[j]).length := (List.getElem?_eq_some_iff.1 hu).1
  have e := fm_drop hf l j
  rw [List.drop_eq_getElem_cons hj, List.flatMap_cons] at e
  rw [← List.getElem?_drop, e, List.getElem?_append_left hi, hu]
theorem fm_at (hf : ∀ x, (f x).length = K) (hK : 0 < K) {l : List α} {j : Nat} {u : Value} (h : (l.flatMap f)[j]? = some u) : ∃ x, l[j / K]? = some x ∧ (f x)[j % K]? = some u := by
  have hl : j < (l.flatMap f).length := (List.getElem?_eq_some_iff.1 h).1
  rw [fm_len hf] at hl
  have hj : j / K < l.length := Nat.div_lt_of_lt_mul (by rw [Nat.mul_comm]; exact hl)
  refine ⟨l[j / K], List.getElem?_eq_getElem hj, ?_⟩
  have hi : j % K < (f l[j / K]).length := by rw [hf]; exact Nat.mod_lt _ hK
  have e := fm_get hf (List.getElem?_eq_getElem hj) (List.getElem?_eq_getElem hi)
  rw [Nat.div_add_mod' j K, h] at e
  rw [List.getElem?_eq_getElem hi]
  exact e.symm
theorem fm_one (h : ∀ x, ∀ u ∈ f x, u.oneCell' = true) (l : List α) : ∀ u ∈ l.flatMap f, u.oneCell' = true := by
  intro u hu
  obtain ⟨x, _, hx⟩ := List.mem_flatMap.1 hu
  exact h x u hx
end

/-! ### Entries -/
/-- An operation: its seven numbers. -/
structure Op7 where
  k : Int
  h : Int
  i : Int
  n : Int
  kk : Int
  v : Int
  t : Int
def Op7.key (o : Op7) : List Int := [o.k, o.h, o.i, o.n, o.kk, o.v, o.t]
theorem Op7.key_inj {a b : Op7} (h : a.key = b.key) : a = b := by
  cases a; cases b
  simp only [Op7.key, List.cons.injEq, and_true] at h
  obtain ⟨rfl, rfl, rfl, rfl, rfl, rfl, rfl⟩ := h
  rfl
instance : DecidableEq Op7 := fun a b => if h : a.key = b.key then isTrue (Op7.key_inj h) else isFalse fun e => h (by rw [e])
def opc (o : Op7) : List Value := [.int .i64 o.k, .int .i64 o.h, .int .i64 o.i, .int .i64 o.n, .int .i64 o.kk, .int .i64 o.v, .int .i64 o.t]
/-- An entry. -/
structure En where
  n : Int
  v : Int
  c : Int
  s : Int
  o : Op7
def En.key (e : En) : List Int × Op7 := ([e.n, e.v, e.c, e.s], e.o)
theorem En.key_inj {a b : En} (h : a.key = b.key) : a = b := by
  cases a; cases b
  simp only [En.key, Prod.mk.injEq, List.cons.injEq, and_true] at h
  obtain ⟨⟨rfl, rfl, rfl, rfl⟩, rfl⟩ := h
  rfl
instance : DecidableEq En := fun a b => if h : a.key = b.key then isTrue (En.key_inj h) else isFalse fun e => h (by rw [e])
def ec (e : En) : List Value := [.int .i64 e.n, .int .i64 e.v, .int .i64 e.c, .int .i64 e.s, .int .i64 e.o.k, .int .i64 e.o.h, .int .i64 e.o.i, .int .i64 e.o.n, .int .i64 e.o.kk, .int .i64 e.o.v, .int .i64 e.o.t]
theorem ec_len (e : En) : (ec e).length = 11 := rfl
theorem ec_one (e : En) : ∀ u ∈ ec e, u.oneCell' = true := by
  intro u hu
  simp only [ec, List.mem_cons, List.not_mem_nil, or_false] at hu
  rcases hu with rfl | rfl | rfl | rfl | rfl | rfl | rfl | rfl | rfl | rfl | rfl <;> rfl
def ecl (l : List En) : List Value := l.flatMap ec
theorem ecl_len (l : List En) : (ecl l).length = l.length * 11 := fm_len ec_len l
theorem ecl_one (l : List En) : ∀ u ∈ ecl l, u.oneCell' = true := fm_one ec_one l

/-! ### Messages -/
structure Ms where
  k : Int
  f : Int
  t : Int
  v : Int
  nm : Int
  n : Int
  b : Int
  c : Int
  es : List En
  o : Int
  w : Int
  d : ByteArray
  s : Int
  op : Op7
  rc : Int
  rv : Int
  ok : Bool
def Ms.key (m : Ms) : List Int × List En × ByteArray × Op7 × Bool := ([m.k, m.f, m.t, m.v, m.nm, m.n, m.b, m.c, m.o, m.w, m.s, m.rc, m.rv], m.es, m.d, m.op, m.ok)
theorem Ms.key_inj {a b : Ms} (h : a.key = b.key) : a = b := by
  cases a; cases b
  simp only [Ms.key, Prod.mk.injEq, List.cons.injEq, and_true] at h
  obtain ⟨⟨rfl, rfl, rfl, rfl, rfl, rfl, rfl, rfl, rfl, rfl, rfl, rfl, rfl⟩, rfl, rfl, rfl, rfl⟩ := h
  rfl
instance : DecidableEq Ms := fun a b => if h : a.key = b.key then isTrue (Ms.key_inj h) else isFalse fun e => h (by rw [e])
/-- A message's cells; where its entries lie is told beside it. -/
def mcs (m : Ms) (e : Value) : List Value := [.int .i64 m.k, .int .i64 m.f, .int .i64 m.t, .int .i64 m.v, .int .i64 m.nm, .int .i64 m.n, .int .i64 m.b, .int .i64 m.c, e, .int .i64 m.o, .int .i64 m.w, .string m.d, .int .i64 m.s,
  .int .i64 m.op.k, .int .i64 m.op.h, .int .i64 m.op.i, .int .i64 m.op.n, .int .i64 m.op.kk, .int .i64 m.op.v, .int .i64 m.op.t, .int .i64 m.rc, .int .i64 m.rv, .bool m.ok]
def mval (m : Ms) (e : Value) : Value := .agg (mcs m e).toArray
def mcc (p : Ms × Value) : List Value := mcs p.1 p.2
theorem mcc_len (p : Ms × Value) : (mcc p).length = 23 := rfl
theorem mcs_len (m : Ms) (e : Value) : (mcs m e).length = 23 := rfl
def mcl (l : List (Ms × Value)) : List Value := l.flatMap mcc
theorem mcl_len (l : List (Ms × Value)) : (mcl l).length = l.length * 23 := fm_len mcc_len l
theorem mcs_one (m : Ms) {e : Value} (he : e.oneCell' = true) : ∀ u ∈ mcs m e, u.oneCell' = true := by
  intro u hu
  simp only [mcs, List.mem_cons, List.not_mem_nil, or_false] at hu
  rcases hu with rfl | rfl | rfl | rfl | rfl | rfl | rfl | rfl | rfl | rfl | rfl | rfl | rfl | rfl | rfl | rfl | rfl | rfl | rfl | rfl | rfl | rfl | rfl <;> first | rfl | exact he
theorem mcl_one {l : List (Ms × Value)} (h : ∀ p ∈ l, p.2.oneCell' = true) : ∀ u ∈ mcl l, u.oneCell' = true := by
  intro u hu
  obtain ⟨p, hp, hx⟩ := List.mem_flatMap.1 hu
  exact mcs_one p.1 (h p hp) u hx
/-- The message that has nothing. -/
def zms : Ms := ⟨0, 0, 0, 0, 0, 0, 0, 0, [], 0, 0, ⟨#[]⟩, 0, ⟨0, 0, 0, 0, 0, 0, 0⟩, 0, 0, false⟩
def zv : Value := .slice none 0 0
/-- What a bag does not hold: messages of kind 0. -/
def real (l : List Ms) : List Ms := l.filter fun m => decide (m.k ≠ 0)
/-- The last ones of a row, as many as there is room for. -/
def lastN {α : Type} (n : Nat) (l : List α) : List α := l.drop (l.length - n)
end Go.Proofs.Ytgkhjmdghmpfcaa

/-
  A call of a disk (tumuluslaw07.Op), and a slice of them, as a row's frame opens it. Plain lemmas.
-/
import Derived.Test.YtcogglanbpphpaaPdCr
import Derived.Deep.Slices
import Derived.Deep.Grids
import Derived.Lib.SmallJoins
import Derived.ChangeSame
namespace Go.Proofs.Ytcogglanbpphpaa
open Go.ChangeShapes Go.WideShapes Go.Deep Go.Joins Go.RowKit

/-- A call that came in: its cells, and what its rows read as. -/
structure Pop where
  k : Int
  a : Int
  A : Option Addr
  m : Nat
  c : Nat
  l : List UInt8
  K : Option Addr
  j : Nat
  d : Nat
  ks : List Bool
def pcs (o : Pop) : List Value := [.int .i64 o.k, .int .i64 o.a, .slice o.A o.m o.c, .slice o.K o.j o.d]
def popv (o : Pop) : Value := .agg (pcs o).toArray
structure RdPop (w : World) (o : Pop) : Prop where
  bytes : Rd w o.A o.m o.l
  keep : RdV w o.K o.j (tvs o.ks)
theorem RdPop.below {w w' : World} {o : Pop} (h : RdPop w o) (k : Below w.heap.size w w') : RdPop w' o := ⟨h.bytes.below k, h.keep.below k⟩
theorem RdPop.drew {w : World} {o : Pop} (h : RdPop w o) : RdPop w.drew o := ⟨h.bytes.drew, h.keep.drew⟩
/-- A slice reads as calls. -/
structure RdPops (w : World) (A : Option Addr) (n : Nat) (l : List Pop) : Prop where
  len : l.length = n
  at_ : 0 < n → ∃ b off, A = some ⟨b, off, none⟩ ∧ b < w.heap.size ∧ ∀ (j : Nat) (o : Pop), l[j]? = some o → ∀ (i : Nat) (u : Value), (pcs o)[i]? = some u → w.cell? ⟨b, off + j * 4 + i, none⟩ = some u
  rd : ∀ o ∈ l, RdPop w o
theorem RdPops.below {w w' : World} {A : Option Addr} {n : Nat} {l : List Pop} (h : RdPops w A n l) (k : Below w.heap.size w w') : RdPops w' A n l :=
  ⟨h.len, fun hn => by
    obtain ⟨b, off, e, hb, hc⟩ := h.at_ hn
    exact ⟨b, off, e, Nat.lt_of_lt_of_le hb k.size, fun j o hj i u hu => (k.cell (p := ⟨b, off + j * 4 + i, none⟩) hb).trans (hc j o hj i u hu)⟩, fun o ho => (h.rd o ho).below k⟩
theorem RdPops.drew {w : World} {A : Option Addr} {n : Nat} {l : List Pop} (h : RdPops w A n l) : RdPops w.drew A n l := h.below (Below.refl _ _).drew
theorem RdPops.get {w : World} {A : Option Addr} {n : Nat} {l : List Pop} (h : RdPops w A n l) {j : Nat} (hj : j < n) : ∃ b off o, A = some ⟨b, off, none⟩ ∧ b < w.heap.size ∧ l[j]? = some o ∧ RdPop w o ∧
    w.cell? ⟨b, off + j * 4, none⟩ = some (.int .i64 o.k) ∧ w.cell? ⟨b, off + j * 4 + 1, none⟩ = some (.int .i64 o.a) ∧ w.cell? ⟨b, off + j * 4 + 2, none⟩ = some (.slice o.A o.m o.c) ∧ w.cell? ⟨b, off + j * 4 + 3, none⟩ = some (.slice o.K o.j o.d) := by
  obtain ⟨b, off, e, hb, hc⟩ := h.at_ (by omega)
  have hl : j < l.length := by have := h.len; omega
  have hg := List.getElem?_eq_getElem hl
  have hc := hc j _ hg
  exact ⟨b, off, l[j], e, hb, hg, h.rd _ (List.getElem_mem hl), hc 0 _ rfl, hc 1 _ rfl, hc 2 _ rfl, hc 3 _ rfl⟩
def IsPops (w : World) (A : Option Addr) (n : Nat) : Prop := ∃ l, RdPops w A n l

section
variable {H : Type} {enc : TypeId × Value → H} {w : World}
theorem bools_open {A : Option Addr} {len cap fuel : Nat} {x : DataW H × List MemPlace}
    (h : DataW.trod enc Try.prog w 0 (fun _ => true) true fuel 23 [.slice A len cap] = some x) : ∃ l, RdV w A len (tvs l) := by
  rcases open_bools Try.underlying23 Try.underlying4 (by kernel_rfl) h with ⟨hcs, _⟩ | ⟨a, l, c, B, hcs, _, hl, hm, _, hcell⟩
  · simp at hcs
    obtain ⟨rfl, rfl, rfl⟩ := hcs
    exact ⟨[], rfl, fun h0 => absurd h0 (by omega)⟩
  · simp at hcs
    obtain ⟨rfl, rfl, rfl⟩ := hcs
    refine ⟨(List.range len).map B, by simp [tvs], fun h0 => ?_⟩
    obtain ⟨b, off, spot⟩ := a
    have hk := hcell 0 (by omega)
    have hspot : spot = none := by simpa [Addr.add] using World.cell?_spot hk
    subst hspot
    have hlt : b < w.heap.size := by
      have := World.block_lt_of_cell? w _ hk
      simpa [Addr.add] using this
    refine ⟨b, off, rfl, hlt, fun j u hu => ?_⟩
    have hj : j < len := by
      have := (List.getElem?_eq_some_iff.1 hu).1
      simpa [tvs] using this
    have hc := hcell j (by omega)
    rw [add_plain] at hc
    rw [hc]
    simp [tvs, List.getElem?_range hj] at hu
    rw [hu]
theorem bytes_open {A : Option Addr} {len cap fuel : Nat} {x : DataW H × List MemPlace}
    (h : DataW.trod enc Try.prog w 0 (fun _ => true) true fuel 32 [.slice A len cap] = some x) : ∃ l, Rd w A len l := by
  rcases open_ints Try.underlying32 Try.underlying5 (by kernel_rfl) h with ⟨hcs, _⟩ | ⟨a, l, c, zs, hcs, _, hl, hm, hz, _, hcell, hwz⟩
  · simp at hcs
    obtain ⟨rfl, rfl, rfl⟩ := hcs
    exact ⟨[], Rd.nil⟩
  · simp at hcs
    obtain ⟨rfl, rfl, rfl⟩ := hcs
    obtain ⟨l, hr, _⟩ := rd_of_row (w := w) (a := some a) (len := len) (cap := cap) (zs := zs) (.inr ⟨a, rfl, hl, hm, by simpa using hz, hcell, hwz⟩)
    exact ⟨l, hr⟩
end
def IsBools (w : World) (A : Option Addr) (n : Nat) : Prop := ∃ l, RdV w A n (tvs l)
theorem bools_is {H : Type} {enc : TypeId × Value → H} {w : World} {A : Option Addr} {len cap fuel : Nat} {x : DataW H × List MemPlace}
    (h : DataW.trod enc Try.prog w 0 (fun _ => true) true fuel 23 [.slice A len cap] = some x) : IsBools w A len := bools_open h
/-- What 'large' leaves. -/
def SmallP (l : List Pop) : Prop := l.length ≤ 100 ∧ ∀ o ∈ l, o.m ≤ 1000 ∧ o.j ≤ 5000
def LgPost (w : World) (l : List Pop) (e : Ending) (w' : World) : Prop := ∃ q, e = .returned (.bool q) ∧ (q = false → SmallP l) ∧ w' = w
end Go.Proofs.Ytcogglanbpphpaa

/-
  Numbers, acks and votes that came in, as a row's frame opens them. Plain lemmas.
-/
import Derived.Test.YtbfamijlaoopaaaVwLawG
import Derived.Test.YtbfamijlaoopaaaRowA
namespace Go.Proofs.Ytbfamijlaoopaaa
open Go.ChangeShapes Go.WideShapes Go.Deep Go.Joins Go.RowKit
theorem vints_rd {w : World} {a : Option Addr} {len cap : Nat} {zs : List Int}
    (h : (a = none ∧ len = 0 ∧ cap = 0 ∧ zs = []) ∨ ∃ x, a = some x ∧ len ≤ cap ∧ cap ≤ maxLen ∧ zs.length = cap ∧ (∀ i, i < zs.length → w.cell? (x.add i) = some (.int .i64 (zs.getD i 0))) ∧ ∀ n ∈ zs, (Lit.int .i64 n).wf = true) :
    RdN w a len (zs.take len) := by
  rcases h with ⟨rfl, rfl, rfl, rfl⟩ | ⟨x, rfl, hl, hm, hz, hc, hs⟩
  · exact RdV.nil
  · refine ⟨by rw [ivl_len, List.length_take]; omega, fun hp => ?_⟩
    obtain ⟨b, off, spot⟩ := x
    have h0 := hc 0 (by omega)
    have hspot : spot = none := by simpa [Addr.add] using World.cell?_spot h0
    subst hspot
    have hlt : b < w.heap.size := World.block_lt_of_cell? w _ h0
    refine ⟨b, off, rfl, by simpa [Addr.add] using hlt, fun j y hy => ?_⟩
    obtain ⟨v, hv, rfl⟩ := ivl_get hy
    have hj : j < len := by
      have := (List.getElem?_eq_some_iff.1 hv).1
      rw [List.length_take] at this
      omega
    have := hc j (by omega)
    rw [add_plain] at this
    rw [List.getElem?_take, if_pos hj] at hv
    rw [this]
    simp [List.getD, hv]
section
variable {H : Type} {enc : TypeId × Value → H} {w : World}
theorem ack_open {cs : List Value} {fuel : Nat} {x : DataW H × List MemPlace} (h : DataW.trod enc Try.prog w 0 (fun _ => true) true fuel 32 cs = some x) : ∃ a : Int × Int, cs = akc a ∧ True := by
  have hl : cs.length = 2 := (len_open Try.underlying32 h).trans (by kernel_rfl)
  obtain ⟨_, _, g0⟩ := fld_open Try.underlying32 h (i := 0) rfl (T := 3) (o := 0) (k := 1) rfl rfl (by kernel_rfl)
  obtain ⟨z0, c0, _, _⟩ := DataW.trod_int Try.underlying3 g0
  have q0 := get_open c0
  obtain ⟨_, _, g1⟩ := fld_open Try.underlying32 h (i := 1) rfl (T := 3) (o := 1) (k := 1) rfl rfl (by kernel_rfl)
  obtain ⟨z1, c1, _, _⟩ := DataW.trod_int Try.underlying3 g1
  have q1 := get_open c1
  refine ⟨(z0, z1), List.ext_getElem? fun j => ?_, trivial⟩
  match j with
  | 0 => exact q0
  | 1 => exact q1
  | j + 2 => rw [List.getElem?_eq_none (by omega), List.getElem?_eq_none (by simp [akc])]
/-- A slice of acks that came in. -/
def IsAcks (w : World) (A : Option Addr) (n : Nat) : Prop := ∃ l, RdK w A n l
theorem acks_open {A : Option Addr} {len cap fuel : Nat} {x : DataW H × List MemPlace} (h : DataW.trod enc Try.prog w 0 (fun _ => true) true fuel 29 [.slice A len cap] = some x) : IsAcks w A len := by
  obtain ⟨l, h1, h2, _, _⟩ := rows_of akc_len (by omega) Try.underlying29 (by kernel_rfl) (fun h => ack_open h) h
  exact ⟨l, h1, h2⟩
theorem vote_open {cs : List Value} {fuel : Nat} {x : DataW H × List MemPlace} (h : DataW.trod enc Try.prog w 0 (fun _ => true) true fuel 51 cs = some x) : ∃ a : Vt, cs = vtc a ∧ True := by
  have hl : cs.length = 6 := (len_open Try.underlying51 h).trans (by kernel_rfl)
  obtain ⟨_, _, g0⟩ := fld_open Try.underlying51 h (i := 0) rfl (T := 3) (o := 0) (k := 1) rfl rfl (by kernel_rfl)
  obtain ⟨z0, c0, _, _⟩ := DataW.trod_int Try.underlying3 g0
  have q0 := get_open c0
  obtain ⟨_, _, g1⟩ := fld_open Try.underlying51 h (i := 1) rfl (T := 3) (o := 1) (k := 1) rfl rfl (by kernel_rfl)
  obtain ⟨z1, c1, _, _⟩ := DataW.trod_int Try.underlying3 g1
  have q1 := get_open c1
  obtain ⟨_, _, g2⟩ := fld_open Try.underlying51 h (i := 2) rfl (T := 3) (o := 2) (k := 1) rfl rfl (by kernel_rfl)
  obtain ⟨z2, c2, _, _⟩ := DataW.trod_int Try.underlying3 g2
  have q2 := get_open c2
  obtain ⟨_, _, g3⟩ := fld_open Try.underlying51 h (i := 3) rfl (T := 3) (o := 3) (k := 1) rfl rfl (by kernel_rfl)
  obtain ⟨z3, c3, _, _⟩ := DataW.trod_int Try.underlying3 g3
  have q3 := get_open c3
  obtain ⟨_, _, g4⟩ := fld_open Try.underlying51 h (i := 4) rfl (T := 3) (o := 4) (k := 1) rfl rfl (by kernel_rfl)
  obtain ⟨z4, c4, _, _⟩ := DataW.trod_int Try.underlying3 g4
  have q4 := get_open c4
  obtain ⟨_, _, g5⟩ := fld_open Try.underlying51 h (i := 5) rfl (T := 49) (o := 5) (k := 1) rfl rfl (by kernel_rfl)
  obtain ⟨A, n, c, c5⟩ := slice_form Try.underlying49 g5
  have q5 := get_open c5
  refine ⟨⟨z0, z1, z2, z3, z4, A, n, c⟩, List.ext_getElem? fun j => ?_, trivial⟩
  match j with
  | 0 => exact q0
  | 1 => exact q1
  | 2 => exact q2
  | 3 => exact q3
  | 4 => exact q4
  | 5 => exact q5
  | j + 6 => rw [List.getElem?_eq_none (by omega), List.getElem?_eq_none (by simp [vtc])]
/-- A slice of votes that came in. -/
def IsVotes (w : World) (A : Option Addr) (n : Nat) : Prop := ∃ l, RdT w A n l
theorem votes_open {A : Option Addr} {len cap fuel : Nat} {x : DataW H × List MemPlace} (h : DataW.trod enc Try.prog w 0 (fun _ => true) true fuel 34 [.slice A len cap] = some x) : IsVotes w A len := by
  obtain ⟨l, h1, h2, _, _⟩ := rows_of vtc_len (by omega) Try.underlying34 (by kernel_rfl) (fun h => vote_open h) h
  exact ⟨l, h1, h2⟩
end
end Go.Proofs.Ytbfamijlaoopaaa

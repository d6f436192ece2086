/-
  Slices of numbers and of texts that came in, as the rows' frames open them. Plain lemmas, no condition of their own.
-/
import Derived.Test.YtjncmfjikoepgaaChLawA
import Derived.Test.YtjncmfjikoepgaaChLawB
import Derived.Test.YtjncmfjikoepgaaChLawC
import Derived.Test.YtjncmfjikoepgaaChLawD
import Derived.Test.YtjncmfjikoepgaaChLawE
import Derived.Test.YtjncmfjikoepgaaChLawF
namespace Go.Proofs.Ytjncmfjikoepgaa
open Go.RowKit

theorem chints_rd {w : World} {a : Option Addr} {len cap : Nat} {zs : List Int}
    (h : (a = none ∧ len = 0 ∧ cap = 0 ∧ zs = []) ∨ ∃ x, a = some x ∧ len ≤ cap ∧ cap ≤ maxLen ∧ zs.length = cap ∧ (∀ i, i < zs.length → w.cell? (x.add i) = some (.int .i64 (zs.getD i 0))) ∧ ∀ n ∈ zs, (Lit.int .i64 n).wf = true) :
    RdV w a len (ivs (zs.take len)) := by
  rcases h with ⟨rfl, rfl, rfl, rfl⟩ | ⟨x, rfl, hl, hm, hz, hc, hs⟩
  · exact RdV.nil
  · refine ⟨by rw [ivs_length, List.length_take]; omega, fun hp => ?_⟩
    obtain ⟨b, off, spot⟩ := x
    have h0 := hc 0 (by omega)
    have hspot : spot = none := by simpa [Addr.add] using World.cell?_spot h0
    subst hspot
    have hlt : b < w.heap.size := World.block_lt_of_cell? w _ h0
    refine ⟨b, off, rfl, by simpa [Addr.add] using hlt, fun j y hy => ?_⟩
    obtain ⟨v, hv, rfl⟩ := ivs_get hy
    have hj : j < len := by
      have := (List.getElem?_eq_some_iff.1 hv).1
      rw [List.length_take] at this
      omega
    have := hc j (by omega)
    rw [add_plain] at this
    rw [List.getElem?_take, if_pos hj] at hv
    rw [this]
    simp [List.getD, hv]
theorem chstrs_rd {w : World} {a : Option Addr} {len cap : Nat} {zs : List ByteArray}
    (h : (a = none ∧ len = 0 ∧ cap = 0 ∧ zs = []) ∨ ∃ x, a = some x ∧ len ≤ cap ∧ cap ≤ maxLen ∧ zs.length = cap ∧ (∀ i, i < zs.length → w.cell? (x.add i) = some (.string (zs.getD i ByteArray.empty))) ∧ ∀ s ∈ zs, s.size ≤ maxLen) :
    RdV w a len (tvs (zs.take len)) := by
  rcases h with ⟨rfl, rfl, rfl, rfl⟩ | ⟨x, rfl, hl, hm, hz, hc, hs⟩
  · exact RdV.nil
  · refine ⟨by rw [tvs_length, List.length_take]; omega, fun hp => ?_⟩
    obtain ⟨b, off, spot⟩ := x
    have h0 := hc 0 (by omega)
    have hspot : spot = none := by simpa [Addr.add] using World.cell?_spot h0
    subst hspot
    have hlt : b < w.heap.size := World.block_lt_of_cell? w _ h0
    refine ⟨b, off, rfl, by simpa [Addr.add] using hlt, fun j y hy => ?_⟩
    obtain ⟨v, hv, rfl⟩ := tvs_get hy
    have hj : j < len := by
      have := (List.getElem?_eq_some_iff.1 hv).1
      rw [List.length_take] at this
      omega
    have := hc j (by omega)
    rw [add_plain] at this
    rw [List.getElem?_take, if_pos hj] at hv
    rw [this]
    simp [List.getD, hv]
theorem chwf {m : Int} (h : (Lit.int .i64 m).wf = true) : -9223372036854775808 ≤ m ∧ m ≤ 9223372036854775807 := by
  simpa [Lit.wf, IntKind.min, IntKind.max, IntKind.signed, IntKind.bits] using h
end Go.Proofs.Ytjncmfjikoepgaa

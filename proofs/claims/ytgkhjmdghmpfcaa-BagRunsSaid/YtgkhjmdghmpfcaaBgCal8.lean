/-
  BagRuns: whatever the call.
-/
import Derived.Test.YtgkhjmdghmpfcaaBgCal7
namespace Go.Proofs.Ytgkhjmdghmpfcaa
open Go.RowKit
theorem call_any {w : World} {p base room n c : Nat} {A : Option Addr} {v : Value} {d l : List (Ms × Value)} (h : CalAt w p base room A n c v d l) (o : BOp) (hm : o.m ≤ 300) (hsm : ∀ q ∈ o.l, SmallM q.1) (hL : ∀ W, Below base w W → RdM W o.A o.m o.l) :
    Calls Try.prog 11 #[.pointer (some ⟨p, 0, none⟩), .slice A n c, bov o, .int .i64 (room : Int)] w (CalPost base p room w) := by
  have stay : ∀ e w', (e = .returned (.tuple #[.slice A n c, .bool true]) ∧ Below w.heap.size w w') → CalPost base p room w e w' := by
    rintro e w' ⟨rfl, b⟩
    exact h.stay b
  show Calls Try.prog 11 #[.pointer (some ⟨p, 0, none⟩), .slice A n c, .agg #[.int .i64 o.k, .int .i64 o.n, .slice o.A o.m o.c], .int .i64 (room : Int)] w (CalPost base p room w)
  by_cases h1 : o.k = 1
  · rw [h1]
    exact call_put h o.n hm hsm hL
  · by_cases h2 : o.k = 2
    · by_cases hi : o.n < 0 ∨ (n : Int) ≤ o.n
      · exact (call_take_no h.bag h.len h2 hi).mono stay
      · obtain ⟨k, hk⟩ : ∃ k : Nat, o.n = (k : Int) := ⟨o.n.toNat, by omega⟩
        rw [h2, hk]
        exact call_take_yes h _ (by omega)
    · by_cases h3 : o.k = 3
      · by_cases hi : o.n < 0 ∨ (n : Int) ≤ o.n
        · exact (call_dbl_no h.bag h.len h3 hi).mono stay
        · obtain ⟨k, hk⟩ : ∃ k : Nat, o.n = (k : Int) := ⟨o.n.toNat, by omega⟩
          rw [h3, hk]
          exact call_dbl_yes h _ (by omega)
      · exact (call_else h1 h2 h3).mono stay
end Go.Proofs.Ytgkhjmdghmpfcaa

/-
  Two laws for a region that draws its order, said over a frame that is written out. Plain lemmas over any program.
-/
import Derived.Test.YtjncmfjikoepgaaMem
namespace Go.Proofs.Ytjncmfjikoepgaa
open Go.RowKit

/-- An operation that yields in whatever world is taken first; the frame stays written out. -/
theorem take_put {P : Program} {md : Region.Mode} {ops : Array Oper} {Q : Exit → Act → World → Prop} {i d : Nat} {oi : Oper} {v : Value} {fuel : Nat} {listed : Array Bool} {T : Array Value} {D : List Deferred} {w : World} (hi : ops[i]? = some oi) (hd : oi.dst = some d)
    (hs : Region.noSelect ops = true) (hf : Region.free md ops listed i = true) (hr : (Region.ready md ops listed).contains i = true)
    (hQ : ∀ c a w, Q (.panic c) (a.put oi.dst v) w → Q (.panic c) a w) (hy : Yields P ops oi v ⟨T, D⟩)
    (h : wpAny P md ops Q fuel (listed.setIfInBounds i true) ⟨T.setIfInBounds d v, D⟩ w) : wpAny P md ops Q (fuel + 1) listed ⟨T, D⟩ w :=
  wpAny_take hi hs hf hr hQ hy (by rw [hd]; exact h)
end Go.Proofs.Ytjncmfjikoepgaa

/-
  Readers beside one another: what one of them does leaves the others as they are. Plain lemmas.
-/
import Derived.Test.YtllbebbmnjojgaaLawC
import Derived.Test.YtllbebbmnjojgaaPlain
namespace Go.Proofs.Ytllbebbmnjojgaa
open Go.RowKit

theorem Rd.other {w w' : World} {A : Option Addr} {n : Nat} {l l1 : List UInt8} {g : Nat} (h : Rd w A n l) (h1 : Rdr w g l1) (hg : w.grownBy w' (some g)) : Rd w' A n l := by
  obtain ⟨B, m, c, hb, _⟩ := h1
  exact h.beside hb hg
theorem Rdr.other {w w' : World} {l l1 : List UInt8} {g g1 : Nat} (h : Rdr w g l) (h1 : Rdr w g1 l1) (hne : g ≠ g1) (hg : w.grownBy w' (some g1)) : Rdr w' g l := by
  have hlt := h.lt
  obtain ⟨A, n, c, hblk, hrd, hnc, hcm⟩ := h
  exact ⟨A, n, c, by rw [hg.block g hlt (by intro e; injection e with e; exact hne e)]; exact hblk, hrd.other h1 hg, hnc, hcm⟩
theorem quiet_eq {P : Program} {f : FuncId} {args : Array Value} {w : World} {n : Nat} {v : Value}
    (h : Calls P f args (w.drewN n) fun e w' => e = .returned v ∧ w.drewN n = w') : Calls P f args (w.drewN n) fun e w'' => e = .returned v ∧ ∃ m, w'' = w.drewN m :=
  h.mono fun _ _ ⟨he, hm⟩ => ⟨he, n, hm.symm⟩
theorem Rdr.drewN {w : World} {g : Nat} {l : List UInt8} (h : Rdr w g l) (n : Nat) : Rdr (w.drewN n) g l := h.below (below_drewN (Below.refl _ _) n)
theorem Rd.drewN {w : World} {A : Option Addr} {m : Nat} {l : List UInt8} (h : Rd w A m l) (n : Nat) : Rd (w.drewN n) A m l := h.below (below_drewN (Below.refl _ _) n)
end Go.Proofs.Ytllbebbmnjojgaa

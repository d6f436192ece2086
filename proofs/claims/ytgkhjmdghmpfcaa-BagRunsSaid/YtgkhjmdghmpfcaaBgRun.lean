/-
  BagRuns: what a round does behind its call. Plain lemmas over the contracts.
-/
import Derived.Test.YtgkhjmdghmpfcaaBgCal8
namespace Go.Proofs.Ytgkhjmdghmpfcaa
open Go.RowKit
def RnChain (W2 : World) (p n c : Nat) (A : Option Addr) : Prop :=
  Calls Try.prog 13 #[.pointer (some ⟨p, 0, none⟩)] W2 fun e W3 => ∃ v3, e = .returned v3 ∧
    Calls Try.prog 14 #[v3, .slice A n c] W3 fun e W4 => e = .returned (.bool true) ∧
      Calls Try.prog 15 #[v3] W4 fun e W5 => e = .returned (.tuple #[]) ∧ Below W2.heap.size W2 W5
theorem rn_chain {W2 : World} {p base room n c : Nat} {A : Option Addr} {v : Value} {d l : List (Ms × Value)} (h : CalAt W2 p base room A n c v d l) : RnChain W2 p n c A := by
  unfold RnChain
  refine (allb_any h.bag).mono ?_
  rintro e W3 ⟨v3, os, rfl, hos, hO, b3⟩
  refine ⟨v3, rfl, ?_⟩
  have hosm := names_small hos h.bag.small
  have hol : os.length = n := by have := congrArg List.length hos; rw [names_len, names_len, h.len] at this; exact this
  have hle := h.le
  obtain ⟨A', c', rfl, hc', hr3, hbk⟩ := hO.rd
  refine (all_any (c := c') (d := c) hr3 (h.row.below b3) (by omega) (fun q hq => by have := (hosm q hq).1; omega)).mono ?_
  rintro e W4 ⟨rfl, b4⟩
  refine ⟨by rw [decide_eq_true (hos.trans h.nam.symm)], ?_⟩
  refine (over_any (hO.below b4) (by omega) (fun q hq => (hosm q hq).1)).mono ?_
  rintro e W5 ⟨rfl, l5, -, -, -, ho5⟩
  refine ⟨rfl, (b3.trans (b4.mono b3.size)).trans (ho5.below (B := W2.heap.size) ?_ (Nat.le_trans b3.size b4.size))⟩
  rintro k (hk | ⟨e, he, hk⟩)
  · exact (World.ownsRow.lt hO.row k hk).1
  · obtain ⟨q, hq, rfl⟩ := List.mem_map.1 he
    exact (World.ownsRow.lt (hO.ents q hq) k hk).1
theorem sizeOp : (Try.prog.info? 33).map (·.size) = some 3 := by kernel_rfl
theorem load_op {w : World} {b o : Nat} {x : BOp} (h : w.rangeAt b o (bcs x)) :
    (Instr.loadAt 33 (.pointer (some ⟨b, o, none⟩))).run Try.prog w = .ok (bov x) w :=
  run_loadAt_mid w b o 33 (bcs x) _ h Try.underlying33 rfl sizeOp
def RnRel (w : World) (p room N : Nat) (acc i : Value) (wr : World) : Prop :=
  ∃ (j : Nat) (A : Option Addr) (n c : Nat) (v : Value) (d l : List (Ms × Value)), j ≤ N ∧ i = .int .i64 (j : Int) ∧ acc = .slice A n c ∧ CalAt wr p w.heap.size room A n c v d l ∧ Below w.heap.size w wr
end Go.Proofs.Ytgkhjmdghmpfcaa

/-
  The document's own bytes of numbers and of heaps: contracts of tumulusref06.numbers and PutHeap.
  The document's own bytes of heaps: the contract of tumulusref06.PutHeap.
-/
import Derived.Test.YtlnmmklpccppmaaGreatDoorTg44
import Derived.Test.YtlnmmklpccppmaaGreatDoorTg16
import Derived.Test.YtlnmmklpccppmaaGreatDoorTg34
namespace Go.Proofs.YtlnmmklpccppmaaGreatDoor
open Go.RowKit
/-- Bytes that were made are appended. -/
theorem app_step {w wr w1 : World} {base m2 m1 c1 : Nat} {v : Value} {A1 : Option Addr} {cs news : List UInt8} (ho : Own 5 wr base v cs) (hb : base ≤ wr.heap.size) (hl : cs.length + m1 ≤ 140737488355328) (B : Below base w wr) (b1 : Below wr.heap.size wr w1) (hr : Rd w1 A1 m1 news) (h2 : (cs ++ news).length = m2) :
    ∃ A2 c2 w2, (Builtin.append_ #[29, 29] 29 #[v, .slice A1 m1 c1]).run Tryz.prog w1 = .ok (.slice A2 m2 c2) w2 ∧ Own 5 w2 base (.slice A2 m2 c2) (cs ++ news) ∧ Below base w w2 ∧ w1.grownBy w2 v.ownBlock := by
  have o1 := ho.below b1
  obtain ⟨v2, w2, hap, hown2, hg2, _⟩ := run_app (P := Tryz.prog) base 29 29 5 Tryz.underlying29 Tryz.infoU8 v cs o1 A1 m1 c1 news hr hl (Nat.le_trans hb b1.size)
  obtain ⟨A2, c2, rfl, _, _, _⟩ := hown2.shapeN h2
  exact ⟨A2, c2, w2, hap, hown2, below_app (B.trans (b1.mono hb)) o1 hg2 (Nat.le_trans hb b1.size), hg2⟩
end Go.Proofs.YtlnmmklpccppmaaGreatDoor
namespace Go.Proofs.YtlnmmklpccppmaaGreatDoor
open Go.RowKit
/-- Between the steps: bytes so far, and boxes that stay. -/
structure RP (W : World) (p : Nat) (hc : List Value) (q : Nat) (oc' : List Value) (cur : List UInt8) (v : Value) (wr : World) : Prop where
  own : Own 5 wr W.heap.size v cur
  box : Whole wr p 26 hc
  ob : Whole wr q 68 oc'
  bel : Below W.heap.size W wr
theorem RP.app {W wr w1 : World} {p q m1 c1 m2 : Nat} {hc oc' : List Value} {cur news : List UInt8} {v : Value} {A1 : Option Addr} (h : RP W p hc q oc' cur v wr) (hl : cur.length + m1 ≤ 140737488355328) (b1 : Below wr.heap.size wr w1) (hr : Rd w1 A1 m1 news) (h2 : (cur ++ news).length = m2) :
    ∃ A2 c2 w2, (Builtin.append_ #[29, 29] 29 #[v, .slice A1 m1 c1]).run Tryz.prog w1 = .ok (.slice A2 m2 c2) w2 ∧ RP W p hc q oc' (cur ++ news) (.slice A2 m2 c2) w2 := by
  obtain ⟨A2, c2, w2, hap, o2, b2, g2⟩ := app_step (c1 := c1) h.own h.bel.size hl h.bel b1 hr h2
  have k1 := h.box.below b1
  have k2 := h.ob.below b1
  have o1 := h.own.below b1
  exact ⟨A2, c2, w2, hap, o2, k1.keep (g2.block _ k1.lt (fun e => o1.ownV.apart k1 (by decide) e.symm)), k2.keep (g2.block _ k2.lt (fun e => o1.ownV.apart k2 (by decide) e.symm)), b2⟩
end Go.Proofs.YtlnmmklpccppmaaGreatDoor

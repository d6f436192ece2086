/-
  What the library's heap does with the blocks that wait: contracts, one a function.
-/
import Derived.Test.YtlnmmklpccppmaaGreatDoorSg8
import Derived.Deep.DeepCutAuto
namespace Go.Proofs.YtlnmmklpccppmaaGreatDoor
open Go.RowKit
/-- A heap as far as n from k on is made, out of the same blocks; from n on all stay. -/
def DownTo (w : World) (base g : Nat) (v : Value) (l : List Blk) (n k : Nat) (l' : List Blk) (w' : World) : Prop :=
  l'.Perm l ∧ (∀ j, n ≤ j → nth l' j = nth l j) ∧ HeapFrom l' n k ∧ Waits w base g v l' v w'
/-- So far. -/
def DownRel (w : World) (base g : Nat) (v : Value) (l : List Blk) (n i0 : Nat) (i : Value) (wr : World) : Prop :=
  ∃ (k : Nat) (l' : List Blk), i = .int .i64 (k : Int) ∧ i0 ≤ k ∧ k ≤ 1000 ∧ l'.Perm l ∧ (∀ j, n ≤ j → nth l' j = nth l j) ∧ HeapBut l' n i0 k ∧ Waits w base g v l' v wr
theorem DownRel.done {w wr w1 : World} {base g n i0 : Nat} {v : Value} {l l' : List Blk} (hp : l'.Perm l) (hs : ∀ j, n ≤ j → nth l' j = nth l j) (hh : HeapFrom l' n i0) (hw : Waits w base g v l' v wr) (hg : Grew wr w1) :
    ∃ l', DownTo w base g v l n i0 l' w1 := ⟨l', hp, hs, hh, hw.below hg.below⟩
/-- One step. -/
theorem DownRel.next {w wr w1 w2 : World} {base g n i0 k j : Nat} {v : Value} {l l' : List Blk} (hp : l'.Perm l) (hs : ∀ j, n ≤ j → nth l' j = nth l j) (hh : HeapBut l' n i0 k) (hw : Waits w base g v l' v wr) (hg : Grew wr w1)
    (hk : i0 ≤ k) (hl : l'.length ≤ 1000) (hn : n ≤ l'.length) (hj : j = 2 * k + 1 ∨ j = 2 * k + 2) (hjn : j < n) (hlq : Lq (nth l' j) (nth l' k)) (ho : ∀ c, (c = 2 * k + 1 ∨ c = 2 * k + 2) → c < n → Lq (nth l' j) (nth l' c))
    (h2 : Waits w1 base g v (swp2 l' k j) v w2) : DownRel w base g v l n i0 (.int .i64 (j : Int)) w2 := by
  refine ⟨j, swp2 l' k j, rfl, by omega, by omega, (swp2_perm (by omega) (by omega)).trans hp, fun m hm => ?_, hh.down hk hn hj hjn hlq ho, (hw.below hg.below).trans h2⟩
  rw [nth_swp2 (by omega) (by omega), if_neg (by omega), if_neg (by omega)]
  exact hs m hm
end Go.Proofs.YtlnmmklpccppmaaGreatDoor

/-
  What the library's heap does with the blocks that wait, further: up, Init, Push and Pop: contracts, one a function.
  What goes out of what waits, and what comes in: the library's Pop and Push, and the queue's own calls: contracts, one a function.
  The queue of free blocks: it is made of a copy, the first one goes out, one comes in: contracts, one a function.
-/
import Derived.Test.YtlnmmklpccppmaaGreatDoorSg9
import Derived.Laws.EntriesVeiled
namespace Go.Proofs.YtlnmmklpccppmaaGreatDoor
open Go.RowKit
def UpRel (w : World) (base g : Nat) (v : Value) (l : List Blk) (i : Value) (wr : World) : Prop :=
  ∃ (k : Nat) (l' : List Blk), i = .int .i64 (k : Int) ∧ k < l'.length ∧ l'.Perm l ∧ HeapUp l' k ∧ Waits w base g v l' v wr
theorem UpRel.next {w wr w1 w2 : World} {base g k p : Nat} {v : Value} {l l' : List Blk} (hp : l'.Perm l) (hh : HeapUp l' k) (hw : Waits w base g v l' v wr) (hg : Grew wr w1)
    (hk : k < l'.length) (hj : k = 2 * p + 1 ∨ k = 2 * p + 2) (hlq : Lq (nth l' k) (nth l' p)) (h2 : Waits w1 base g v (swp2 l' p k) v w2) : UpRel w base g v l (.int .i64 (p : Int)) w2 :=
  ⟨p, swp2 l' p k, rfl, by rw [swp2_length]; omega, (swp2_perm (by omega) hk).trans hp, hh.up hj hk hlq, (hw.below hg.below).trans h2⟩
end Go.Proofs.YtlnmmklpccppmaaGreatDoor
namespace Go.Proofs.YtlnmmklpccppmaaGreatDoor
open Go.RowKit
/-- The first one is out, and the others are a heap. -/
def Popped (w : World) (base g : Nat) (v : Value) (l : List Blk) (b : Blk) (w' : World) : Prop :=
  ∃ l' v', (b :: l').Perm l ∧ (∀ c ∈ l', Lq b c) ∧ HeapFrom l' l'.length 0 ∧ Waits w base g v l' v' w'
end Go.Proofs.YtlnmmklpccppmaaGreatDoor
namespace Go.Proofs.YtlnmmklpccppmaaGreatDoor
open Go.RowKit
theorem Popped.pre {w w1 w2 : World} {base g : Nat} {v : Value} {l : List Blk} {b : Blk} (hb : Below w.heap.size w w1) (h : Popped w1 base g v l b w2) : Popped w base g v l b w2 := by
  obtain ⟨l', v', h1, h2, h3, h4⟩ := h
  exact ⟨l', v', h1, h2, h3, h4.1, (QStep.of_below hb g v).trans h4.2⟩
theorem Popped.post {w w1 w2 : World} {base g : Nat} {v : Value} {l : List Blk} {b : Blk} (h : Popped w base g v l b w1) (hb : Below w1.heap.size w1 w2) : Popped w base g v l b w2 := by
  obtain ⟨l', v', h1, h2, h3, h4⟩ := h
  exact ⟨l', v', h1, h2, h3, h4.below hb⟩
/-- Behind it a block r of the call's own is written. -/
theorem Waits.beside {w W w1 w2 : World} {base g r : Nat} {v v' : Value} {l : List Blk} (hB : Below w.heap.size w W) (h : Waits W base g v l v' w1) (hr : w.heap.size ≤ r) (hrW : r < W.heap.size) (hg : r ≠ g) (hv : v.ownBlock ≠ some r) (h2 : w1.grownBy w2 (some r)) : Waits w base g v l v' w2 := by
  have hv' : v'.ownBlock ≠ some r := by
    rcases h.2.own with e | ⟨k, e, hk⟩
    · rw [e]; exact hv
    · rw [e]; intro e2; injection e2 with e2; omega
  have hs := hB.size
  have hs1 := h.2.size
  refine ⟨⟨h.1.at_.grown h2 (fun e => hg e.symm), h.1.own.grown h2 (fun k hk => by rintro e; injection e with e; exact hv' (e ▸ hk)), h.1.lo⟩, ?_⟩
  refine ⟨h2.os.trans (h.2.os.trans hB.os), h2.tape.trans (h.2.tape.trans hB.tape), h2.output.trans (h.2.output.trans hB.output), Nat.le_trans hs (Nat.le_trans hs1 h2.size), fun k hk hkg hkv => ?_, ?_⟩
  · rw [h2.block k (by omega) (by intro e; injection e with e; omega), h.2.block k (by omega) hkg hkv, hB.block k hk]
  · rcases h.2.own with e | ⟨k, e, hk⟩
    · exact .inl e
    · exact .inr ⟨k, e, by omega⟩
theorem Popped.beside {w W w1 w2 : World} {base g r : Nat} {v : Value} {l : List Blk} {b : Blk} (hB : Below w.heap.size w W) (h : Popped W base g v l b w1) (hr : w.heap.size ≤ r) (hrW : r < W.heap.size) (hg : r ≠ g) (hv : v.ownBlock ≠ some r) (h2 : w1.grownBy w2 (some r)) : Popped w base g v l b w2 := by
  obtain ⟨l', v', e1, e2, e3, h4⟩ := h
  exact ⟨l', v', e1, e2, e3, h4.beside hB hr hrW hg hv h2⟩
end Go.Proofs.YtlnmmklpccppmaaGreatDoor

/-
  All that waits is joined: a row of the call's own, a queue, boxes beside them; contract of join.
  Taking a block, by the program: contract of Take.
-/
import Derived.Test.YtlnmmklpccppmaaGreatDoorSg10
import Derived.Test.YtlnmmklpccppmaaGreatDoorSg11
import Derived.Test.YtlnmmklpccppmaaGreatDoorSg6
namespace Go.Proofs.YtlnmmklpccppmaaGreatDoor
open Go.RowKit
/-- A queue, a row of the call's own, and boxes beside them. -/
structure QS (w : World) (base lo : Nat) (rs : List Nat) (g : Nat) (H : List Blk) (v : Value) (J : List Blk) (vJ : Value) (wr : World) : Prop where
  q : QAt wr base g v H
  heap : HeapFrom H H.length 0
  row : OwnB 65 wr lo vJ J
  rowg : vJ.ownBlock ≠ some g
  apart : ∀ k, v.ownBlock = some k → vJ.ownBlock ≠ some k
  boxes : ∀ r ∈ rs, r < wr.heap.size ∧ base ≤ r ∧ r ≠ g ∧ v.ownBlock ≠ some r ∧ vJ.ownBlock ≠ some r
  bel : Below base w wr
  lo1 : base ≤ lo
  lo2 : lo ≤ wr.heap.size
section
variable {w wr w2 : World} {base lo g : Nat} {rs : List Nat} {H H' J J' : List Blk} {v v' vJ vJ' : Value}
theorem QS.small (h : QS w base lo rs g H v J vJ wr) : base ≤ wr.heap.size := Nat.le_trans h.lo1 h.lo2
theorem QS.below (h : QS w base lo rs g H v J vJ wr) (b : Below wr.heap.size wr w2) : QS w base lo rs g H v J vJ w2 :=
  ⟨h.q.below b, h.heap, h.row.below b, h.rowg, h.apart, fun r hr => ⟨Nat.lt_of_lt_of_le (h.boxes r hr).1 b.size, (h.boxes r hr).2⟩, h.bel.trans (b.mono h.small), h.lo1, Nat.le_trans h.lo2 b.size⟩
theorem QS.add (h : QS w base lo rs g H v J vJ wr) (b : Below wr.heap.size wr w2) {r : Nat} (hr : wr.heap.size ≤ r) (hr2 : r < w2.heap.size) : QS w base lo (r :: rs) g H v J vJ w2 := by
  have k := h.below b
  refine ⟨k.q, k.heap, k.row, k.rowg, k.apart, fun s hs => ?_, k.bel, k.lo1, k.lo2⟩
  rcases List.mem_cons.1 hs with e | e
  · subst e
    exact ⟨hr2, Nat.le_trans h.small hr, by have := h.q.at_.lt; omega, fun e => by have := (h.q.own.lt _ e).2; omega, fun e => by have := (h.row.lt _ e).2; omega⟩
  · exact k.boxes s e
theorem QS.drop {r : Nat} (h : QS w base lo (r :: rs) g H v J vJ wr) : QS w base lo rs g H v J vJ wr :=
  ⟨h.q, h.heap, h.row, h.rowg, h.apart, fun s hs => h.boxes s (List.mem_cons_of_mem _ hs), h.bel, h.lo1, h.lo2⟩
theorem QS.waits (h : QS w base lo rs g H v J vJ wr) (k : Waits wr base g v H' v' w2) (hh : HeapFrom H' H'.length 0) : QS w base lo rs g H' v' J vJ w2 ∧ ∀ r ∈ rs, w2.heap[r]? = wr.heap[r]? := by
  have hg := h.q.at_.lt
  have hne : ∀ r, r < wr.heap.size → v.ownBlock ≠ some r → v'.ownBlock ≠ some r := fun r hr hv e => by
    rcases k.2.own with e2 | ⟨s, e2, hs⟩
    · rw [e2] at e; exact hv e
    · rw [e2] at e; injection e with e; omega
  refine ⟨⟨k.1, hh, h.row.keep fun s hs => k.2.block s (h.row.lt s hs).2 (fun e => h.rowg (by rw [hs, e])) (fun e => h.apart s e hs), h.rowg, fun s hs e => ?_, fun r hr => ?_, h.bel.trans (k.2.below h.q (Nat.le_refl _)), h.lo1, Nat.le_trans h.lo2 k.2.size⟩, fun r hr => ?_⟩
  · exact hne s (h.row.lt s e).2 (fun e2 => h.apart s e2 e) hs
  · obtain ⟨h1, h2, h3, h4, h5⟩ := h.boxes r hr
    exact ⟨Nat.lt_of_lt_of_le h1 k.2.size, h2, h3, hne r h1 h4, h5⟩
  · obtain ⟨h1, h2, h3, h4, h5⟩ := h.boxes r hr
    exact k.2.block r h1 h3 h4
theorem QS.app (h : QS w base lo rs g H v J vJ wr) (k : AppB 65 wr lo vJ J' vJ' w2) : QS w base lo rs g H v J' vJ' w2 ∧ ∀ r ∈ rs, w2.heap[r]? = wr.heap[r]? := by
  obtain ⟨k1, k2, k3⟩ := k
  have hg := h.q.at_.lt
  have hne : ∀ r, r < wr.heap.size → vJ.ownBlock ≠ some r → vJ'.ownBlock ≠ some r := fun r hr hv e => by
    rcases k3 with e2 | ⟨s, e2, hs⟩
    · rw [e2] at e; exact hv e
    · rw [e2] at e; injection e with e; omega
  refine ⟨⟨⟨h.q.at_.keep (k2.block g hg (fun e => h.rowg e.symm)), h.q.own.grown k2 (fun s hs e => h.apart s hs e.symm), h.q.lo⟩, h.heap, k1, hne g hg h.rowg, fun s hs => hne s (h.q.own.lt s hs).2 (h.apart s hs), fun r hr => ?_, h.bel.grown k2 h.small fun s hs => Nat.le_trans h.lo1 (h.row.lt s hs).1, h.lo1, Nat.le_trans h.lo2 k2.size⟩, fun r hr => ?_⟩
  · obtain ⟨h1, h2, h3, h4, h5⟩ := h.boxes r hr
    exact ⟨Nat.lt_of_lt_of_le h1 k2.size, h2, h3, h4, hne r h1 h5⟩
  · obtain ⟨h1, h2, h3, h4, h5⟩ := h.boxes r hr
    exact k2.block r h1 (fun e => h5 e.symm)
theorem QS.store {r : Nat} (h : QS w base lo rs g H v J vJ wr) (hr : r ∈ rs) (k : wr.grownBy w2 (some r)) : QS w base lo rs g H v J vJ w2 ∧ ∀ s ∈ rs, s ≠ r → w2.heap[s]? = wr.heap[s]? := by
  obtain ⟨h1, h2, h3, h4, h5⟩ := h.boxes r hr
  refine ⟨⟨⟨h.q.at_.grown k (fun e => h3 e.symm), h.q.own.grown k (fun s hs e => h4 (by rw [hs, e])), h.q.lo⟩, h.heap, h.row.grown k (fun s hs e => h5 (by rw [hs, e])), h.rowg, h.apart, fun s hs => ⟨Nat.lt_of_lt_of_le (h.boxes s hs).1 k.size, (h.boxes s hs).2⟩, below_grown h.bel k h.small h2, h.lo1, Nat.le_trans h.lo2 k.size⟩, fun s hs hne => ?_⟩
  exact k.block s (h.boxes s hs).1 (fun e => hne (by injection e))
/-- The row is cut. -/
theorem QS.cut {ga n c : Nat} (h : QS w base lo rs g H v J (.slice (some ⟨ga, 0, none⟩) n c) wr) (hn : J.length = n) {k : Nat} (hk : k ≤ n) : QS w base lo rs g H v (J.take k) (.slice (some ⟨ga, 0, none⟩) k c) wr :=
  ⟨h.q, h.heap, h.row.cut hn hk, h.rowg, h.apart, h.boxes, h.bel, h.lo1, h.lo2⟩
end
end Go.Proofs.YtlnmmklpccppmaaGreatDoor
namespace Go.Proofs.YtlnmmklpccppmaaGreatDoor
open Go.RowKit
theorem ins_perm (b : Blk) : ∀ l : List Blk, (ins b l).Perm (b :: l)
  | [] => List.Perm.refl _
  | c :: t => by
    unfold ins
    split
    · exact List.Perm.refl _
    · exact ((ins_perm b t).cons c).trans (List.Perm.swap ..)
theorem woL_perm {r : Int} {l rest : List Blk} {B : Blk} (h : Right r l) (hp : (B :: rest).Perm l) : rest.Perm (woL l B) := by
  have hne : (B :: rest).Pairwise (fun a c => a.1 ≠ c.1) := (h.rise.imp fun q => by omega : l.Pairwise (fun a c => a.1 ≠ c.1)).perm hp.symm (fun q e => q e.symm)
  have h1 := (List.pairwise_cons.1 hne).1
  have h2 := hp.filter (fun x => !sameB x B)
  have h3 : (B :: rest).filter (fun x => !sameB x B) = rest := by
    rw [List.filter_cons_of_neg (by rw [(sameB_iff B B).2 rfl]; simp)]
    refine List.filter_eq_self.2 fun c hc => ?_
    rw [sameB_no (fun e => h1 c hc (by rw [e]))]
    rfl
  rw [h3] at h2
  exact h2
/-- The first loop: what is too small is left. -/
structure Tk1 (l : List Blk) (t : Int) (b : Blk) (H L : List Blk) : Prop where
  perm : ((b :: H) ++ L).Perm l
  small : ∀ c ∈ L, c.2 < t
  first : ∀ c ∈ H, Lq b c
theorem Tk1.next {l H H' L : List Blk} {t : Int} {b b' : Blk} (h : Tk1 l t b H L) (hb : b.2 < t) (hp : (b' :: H').Perm H) (hm : ∀ c ∈ H', Lq b' c) : Tk1 l t b' H' (L ++ [b]) := by
  refine ⟨?_, fun c hc => ?_, hm⟩
  · refine List.Perm.trans ?_ h.perm
    refine List.Perm.trans ?_ ((List.Perm.cons b hp).append_right L)
    rw [List.cons_append, List.cons_append, List.cons_append, ← List.append_assoc]
    exact (List.perm_append_singleton b (b' :: (H' ++ L))).trans (List.Perm.refl _)
  · rcases List.mem_append.1 hc with e | e
    · exact h.small c e
    · rw [List.mem_singleton.1 e]; exact hb
theorem Tk1.more {l H L : List Blk} {t : Int} {b : Blk} (h : Tk1 l t b H L) (hb : b.2 < t) (hr : roomB l t = true) : 0 < H.length := by
  unfold roomB at hr
  rw [List.any_eq_true] at hr
  obtain ⟨c, hc, ht⟩ := hr
  have ht := of_decide_eq_true ht
  rcases List.mem_append.1 (h.perm.mem_iff.2 hc) with e | e
  · rcases List.mem_cons.1 e with e | e
    · rw [e] at ht; omega
    · exact List.length_pos_of_mem e
  · have := h.small c e; omega
/-- The second loop: the upper halves are left. -/
def Tk2 (l : List Blk) (B : Blk) (o : Int) (H M : List Blk) : Prop := ∃ m, TkInv l B o m ∧ (M ++ H).Perm m
theorem Tk2.start {r t : Int} {l H L : List Blk} {B : Blk} (hR : Right r l) (h : Tk1 l t B H L) : Tk2 l B B.2 H L :=
  ⟨_, TkInv.start hR, List.perm_append_comm.trans (woL_perm hR h.perm)⟩
theorem Tk2.step {r o : Int} {l H M : List Blk} {B : Blk} (hR : Right r l) (hB : B ∈ l) (ho : 0 < o) (hoB : o ≤ B.2) (h : Tk2 l B o H M) : Tk2 l B (o - 1) H (M ++ [(B.1 + sz (o - 1), o - 1)]) := by
  obtain ⟨m, h1, h2⟩ := h
  refine ⟨_, TkInv.step hR hB ho hoB h1, ?_⟩
  refine List.Perm.trans ?_ (ins_perm _ m).symm
  rw [List.append_assoc]
  exact (List.perm_middle (l₁ := M) (l₂ := H)).trans (h2.cons _)
theorem Tk2.done {l H M m' : List Blk} {B : Blk} {t : Int} (hB : B ∈ l) (ht : t ≤ B.2) (hl : ∀ c ∈ l, t ≤ c.2 → Lq B c) (h : Tk2 l B t H M) (hp : m'.Perm (M ++ H)) (hs : m'.Pairwise (fun a c => a.1 ≤ c.1)) : Took l t (B.1, t) m' := by
  obtain ⟨m, ⟨h1, h2⟩, h3⟩ := h
  have hpm := hp.trans h3
  have hne : m'.Pairwise (fun a c => a.1 ≠ c.1) := (h1.imp fun q => by omega : m.Pairwise (fun a c => a.1 ≠ c.1)).perm hpm.symm (fun q e => q e.symm)
  refine ⟨B, hB, ht, hl, rfl, (hs.and hne).imp fun q => by omega, fun c => ?_⟩
  rw [hpm.mem_iff]
  exact h2 c
end Go.Proofs.YtlnmmklpccppmaaGreatDoor

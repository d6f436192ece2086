/-
  All that waits is joined: a row of the call's own, a queue, boxes beside them; contract of join.
  Giving a block back, by the program: contract of Give.
  Taking a block, by the program: contract of Take.
-/
import Derived.Test.YtkbggbgnnllmjaaDoorMg10
import Derived.Test.YtkbggbgnnllmjaaDoorMg11
import Derived.Test.YtkbggbgnnllmjaaDoorMg6
namespace Go.Proofs.YtkbggbgnnllmjaaDoor
open Go.RowKit

section
variable {w wr w2 : World} {base lo g : Nat} {rs : List Nat} {H H' J J' : List Blk} {v v' vJ vJ' : Value}
end

def JnPost (w : World) (base lo : Nat) (r : Int) (lf : List Blk) (b0 : Blk) (e : Ending) (w' : World) : Prop :=
  ∃ J v, e = .returned v ∧ OwnB 38 w' lo v J ∧ JnInv r lf b0 J [] ∧ J.length ≤ 300 ∧ Below base w w'

end Go.Proofs.YtkbggbgnnllmjaaDoor
namespace Go.Proofs.YtkbggbgnnllmjaaDoor
open Go.RowKit

/-- What giving back does with a right region. -/
theorem words_of {r : Int} {A : Option Addr} {n c : Nat} {l : List Blk} {W : World} (hR : Right r l) (h : RdS W A n l) (hn : n ≤ 1000) (hT : Tab W) :
    Calls Tryd.prog 43 #[.int .i64 r, .slice A n c] W (MapOf W r l) :=
  (freeWords_any r A n c l _ h hn hT).mono fun _ _ h => h.elim (fun h => h.2) (fun h => absurd hR h.1)
end Go.Proofs.YtkbggbgnnllmjaaDoor
namespace Go.Proofs.YtkbggbgnnllmjaaDoor
open Go.RowKit

theorem ins_perm (b : Blk) : ∀ l : List Blk, (ins b l).Perm (b :: l)
  | [] => List.Perm.refl _
  | c :: t => by
    unfold ins
    split
    · exact List.Perm.refl _
    · exact ((ins_perm b t).cons c).trans (List.Perm.swap ..)
theorem woL_perm {r : Int} {l rest : List Blk} {B : Blk} (h : Right r l) (hp : (B :: rest).Perm l) : rest.Perm (woL l B) := by
  have hne : (B :: rest).Pairwise (fun a c => a.1 ≠ c.1) := (h.rise.imp fun q => by omega : l.Pairwise (fun a c => a.1 ≠ c.1)).perm hp.symm (fun q e => q e.symm)
  have h1 := (List.pairwise_cons.1 hne).1
  have h2 := hp.filter (fun x => !sameB x B)
  have h3 : (B :: rest).filter (fun x => !sameB x B) = rest := by
    rw [List.filter_cons_of_neg (by rw [(sameB_iff B B).2 rfl]; simp)]
    refine List.filter_eq_self.2 fun c hc => ?_
    rw [sameB_no (fun e => h1 c hc (by rw [e]))]
    rfl
  rw [h3] at h2
  exact h2
theorem append_ts {P : Program} (w : World) (t u ty U : TypeId) (ht : P.underlying t = some (.slice U)) (hu : P.underlying u = some (.slice U)) (A : Option Addr) (n c : Nat) (y : Value) :
    (Builtin.append_ #[t, u] ty #[.slice A n c, y]).run P w = (Builtin.append_ #[t, t] ty #[.slice A n c, y]).run P w := by
  simp [Builtin.append_, run_underlying ht, run_underlying hu]

/-- The first loop: what is too small is left. -/
structure Tk1 (l : List Blk) (t : Int) (b : Blk) (H L : List Blk) : Prop where
  perm : ((b :: H) ++ L).Perm l
  small : ∀ c ∈ L, c.2 < t
  first : ∀ c ∈ H, Lq b c
theorem Tk1.next {l H H' L : List Blk} {t : Int} {b b' : Blk} (h : Tk1 l t b H L) (hb : b.2 < t) (hp : (b' :: H').Perm H) (hm : ∀ c ∈ H', Lq b' c) : Tk1 l t b' H' (L ++ [b]) := by
  refine ⟨?_, fun c hc => ?_, hm⟩
  · refine List.Perm.trans ?_ h.perm
    refine List.Perm.trans ?_ ((List.Perm.cons b hp).append_right L)
    rw [List.cons_append, List.cons_append, List.cons_append, ← List.append_assoc]
    exact (List.perm_append_singleton b (b' :: (H' ++ L))).trans (List.Perm.refl _)
  · rcases List.mem_append.1 hc with e | e
    · exact h.small c e
    · rw [List.mem_singleton.1 e]; exact hb
theorem Tk1.more {l H L : List Blk} {t : Int} {b : Blk} (h : Tk1 l t b H L) (hb : b.2 < t) (hr : roomB l t = true) : 0 < H.length := by
  unfold roomB at hr
  rw [List.any_eq_true] at hr
  obtain ⟨c, hc, ht⟩ := hr
  have ht := of_decide_eq_true ht
  rcases List.mem_append.1 (h.perm.mem_iff.2 hc) with e | e
  · rcases List.mem_cons.1 e with e | e
    · rw [e] at ht; omega
    · exact List.length_pos_of_mem e
  · have := h.small c e; omega
theorem Tk1.best {l H L : List Blk} {t : Int} {b : Blk} (h : Tk1 l t b H L) : b ∈ l ∧ ∀ c ∈ l, t ≤ c.2 → Lq b c := by
  refine ⟨h.perm.mem_iff.1 (by simp), fun c hc ht => ?_⟩
  rcases List.mem_append.1 (h.perm.mem_iff.2 hc) with e | e
  · rcases List.mem_cons.1 e with e | e
    · rw [e]; exact Lq.refl _
    · exact h.first c e
  · have := h.small c e; omega
/-- The second loop: the upper halves are left. -/
def Tk2 (l : List Blk) (B : Blk) (o : Int) (H M : List Blk) : Prop := ∃ m, TkInv l B o m ∧ (M ++ H).Perm m
theorem Tk2.start {r t : Int} {l H L : List Blk} {B : Blk} (hR : Right r l) (h : Tk1 l t B H L) : Tk2 l B B.2 H L :=
  ⟨_, TkInv.start hR, List.perm_append_comm.trans (woL_perm hR h.perm)⟩
theorem Tk2.step {r o : Int} {l H M : List Blk} {B : Blk} (hR : Right r l) (hB : B ∈ l) (ho : 0 < o) (hoB : o ≤ B.2) (h : Tk2 l B o H M) : Tk2 l B (o - 1) H (M ++ [(B.1 + sz (o - 1), o - 1)]) := by
  obtain ⟨m, h1, h2⟩ := h
  refine ⟨_, TkInv.step hR hB ho hoB h1, ?_⟩
  refine List.Perm.trans ?_ (ins_perm _ m).symm
  rw [List.append_assoc]
  exact (List.perm_middle (l₁ := M) (l₂ := H)).trans (h2.cons _)
theorem Tk2.done {l H M m' : List Blk} {B : Blk} {t : Int} (hB : B ∈ l) (ht : t ≤ B.2) (hl : ∀ c ∈ l, t ≤ c.2 → Lq B c) (h : Tk2 l B t H M) (hp : m'.Perm (M ++ H)) (hs : m'.Pairwise (fun a c => a.1 ≤ c.1)) : Took l t (B.1, t) m' := by
  obtain ⟨m, ⟨h1, h2⟩, h3⟩ := h
  have hpm := hp.trans h3
  have hne : m'.Pairwise (fun a c => a.1 ≠ c.1) := (h1.imp fun q => by omega : m.Pairwise (fun a c => a.1 ≠ c.1)).perm hpm.symm (fun q e => q e.symm)
  refine ⟨B, hB, ht, hl, rfl, (hs.and hne).imp fun q => by omega, fun c => ?_⟩
  rw [hpm.mem_iff]
  exact h2 c
end Go.Proofs.YtkbggbgnnllmjaaDoor

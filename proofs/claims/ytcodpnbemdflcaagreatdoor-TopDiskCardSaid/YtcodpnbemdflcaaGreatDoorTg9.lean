/-
  What the document's helpers that make rows do: without one, with one more; how many words; which block is taken: contracts.
  How many words blocks have, and which block is taken, by the document: contracts.
  Whether free blocks are right, by the document: contract of Right.
-/
import Derived.Test.YtcodpnbemdflcaaGreatDoorTg8
import Derived.Test.YtcodpnbemdflcaaGreatDoorTg7
namespace Go.Proofs.YtcodpnbemdflcaaGreatDoor
open Go.RowKit
def woL (l:List Blk) (b:Blk):List Blk:=l.filter fun x => !sameB x b
theorem woL_mem {l:List Blk} {b c:Blk} : c ∈ woL l b ↔ c ∈ l∧c≠b:=by
 unfold woL
 rw [List.mem_filter]
 constructor
 ·rintro ⟨h1,h2⟩
  exact ⟨h1,fun e=>by rw [(sameB_iff _ _).2 e] at h2;cases h2⟩
 ·rintro ⟨h1,h2⟩
  exact ⟨h1,by rw [sameB_no h2];rfl⟩
def ins (b:Blk):List Blk→List Blk
 | [] => [b]
 | c :: t=>if b.1 < c.1 then b :: c :: t else c :: ins b t
theorem ins_mem {b c:Blk} : ∀ {l:List Blk},c ∈ ins b l ↔ c=b∨c ∈ l
 | []=>by simp [ins]
 | d :: t=>by
  unfold ins
  split
  ·simp
  ·simp only [List.mem_cons,ins_mem (l:=t)]
   constructor
   ·rintro (h | h | h) <;> simp [h]
   ·rintro (h | h | h) <;> simp [h]
theorem ins_rise {b:Blk} : ∀ {l:List Blk},l.Pairwise (fun x y=>x.1 < y.1)→(∀ c ∈ l,c.1≠b.1)→(ins b l).Pairwise (fun x y=>x.1 < y.1)
 | [],_,_=>List.pairwise_singleton _ _
 | d :: t,h,hne=>by
  unfold ins
  split
  ·rename_i hlt
   rw [List.pairwise_cons]
   refine ⟨fun c hc => ?_,h⟩
   rcases List.mem_cons.1 hc with e | e
   ·rw [e];exact hlt
   ·have:=(List.pairwise_cons.1 h).1 c e;omega
  ·rename_i hlt
   rw [List.pairwise_cons] at h ⊢
   refine ⟨fun c hc => ?_,ins_rise h.2 fun c hc=>hne c (List.mem_cons_of_mem _ hc)⟩
   have hd:=hne d (List.mem_cons_self ..)
   rcases ins_mem.1 hc with e | e
   ·rw [e];omega
   ·exact h.1 c e
end Go.Proofs.YtcodpnbemdflcaaGreatDoor
namespace Go.Proofs.YtcodpnbemdflcaaGreatDoor
open Go.RowKit
def sumL (l:List Blk):Int:=(l.map fun b=>sz b.2).sum
theorem sumL_snoc (l:List Blk) (b:Blk):sumL (l ++ [b])=sumL l+sz b.2:=by simp [sumL]
end Go.Proofs.YtcodpnbemdflcaaGreatDoor
namespace Go.Proofs.YtcodpnbemdflcaaGreatDoor
open Go.RowKit
theorem OwnB.rd {U:TypeId} {w:World} {base:Nat} {v:Value} {l:List Blk} (h:OwnB U w base v l) : ∃ A c,v = .slice A l.length c∧RdS w A l.length l:=by
 obtain ⟨A,c,hv,_,_,r,_⟩:=h.shape rfl
 exact ⟨A,c,hv,r⟩
theorem OwnB.rdn {U:TypeId} {w:World} {base n:Nat} {v:Value} {l:List Blk} (h:OwnB U w base v l) (hn:l.length=n) : ∃ A c,v = .slice A n c∧RdS w A n l:=by
 subst hn
 exact h.rd
end Go.Proofs.YtcodpnbemdflcaaGreatDoor

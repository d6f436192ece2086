/-
  Package redo: the records in the ring are gone through (follow), in a log whose root tells of none that is safe: a contract.
  Plain mathematics of a ring that holds all of a log's records, of whatever ages, from a start on, and may wrap; what else lies there are elder records' pieces. Written ahead for stage 9.
-/
import Derived.Test.YtcodpnbemdflcaaGreatDoorTg34
import Derived.Lib.QuietBelow
import Derived.Deep.RegionHeld3
import Derived.Deep.RegionLaw
namespace Go.Proofs.YtcodpnbemdflcaaGreatDoor
open Go.RowKit
theorem mixed8:Tryz.prog.follows .mixedOrders=true:=by kernel_rfl
def szs (L:List (List UInt8)) (m:Nat):List Nat:=(L.take m).map fun t=>np t.length
theorem szs_succ {L:List (List UInt8)} {m:Nat} {t:List UInt8} (h:L[m]? = some t):szs L (m+1)=szs L m ++ [np t.length]:=by
 rw [szs,szs,List.take_add_one,h]
 simp
theorem szs_length {L:List (List UInt8)} {m:Nat} (h:m≤L.length):(szs L m).length=m:=by simp [szs];omega
end Go.Proofs.YtcodpnbemdflcaaGreatDoor
namespace Go.Proofs.YtcodpnbemdflcaaGreatDoor
open Go.RowKit
structure RingG (R:Nat→Ct) (n F st:Nat) (ag:Nat→Nat) (L:List (List UInt8)):Prop where
 sn:st < n
 fits:off L L.length≤n
 has : ∀ m t,L[m]? = some t → ∀ i,i < np t.length→R ((st+off L m+i) % n)=pc (ag m) (F+m) t i
 nu : ∀ q,q < n→(R q).nu < F+L.length
 tx : ∀ q,q < n→(R q).tx.length≤36
 sz : ∀ q,q < n→(R q).sz≤1024
 pos : ∀ t ∈ L,1≤t.length
 len : ∀ t ∈ L,t.length≤1024
section
variable {R:Nat→Ct} {n F st:Nat} {ag:Nat→Nat} {L:List (List UInt8)}
theorem RingG.n_pos (h:RingG R n F st ag L):0 < n:=Nat.lt_of_le_of_lt (Nat.zero_le _) h.sn
theorem RingG.at_ (h:RingG R n F st ag L) {m i:Nat} {t:List UInt8} (ht:L[m]? = some t) (hi:i < np t.length):R (((st+off L m) % n+i) % n)=pc (ag m) (F+m) t i:=by
 rw [Nat.mod_add_mod]
 exact h.has m t ht i hi
theorem RingG.text (h:RingG R n F st ag L) {m:Nat} {t:List UInt8} (ht:L[m]? = some t):recT R n ((st+off L m) % n) (np t.length)=t:=by
 have:recT R n ((st+off L m) % n) (np t.length)=(List.range (np t.length)).flatMap fun i=>(t.drop (36*i)).take 36:=by
  unfold recT
  rw [List.flatMap_def,List.flatMap_def]
  congr 1
  apply List.map_congr_left
  intro i hi
  rw [h.at_ ht (List.mem_range.1 hi)]
  rfl
 rw [this,parts_all]
theorem RingG.ok (h:RingG R n F st ag L) {m:Nat} {t:List UInt8} (ht:L[m]? = some t) {i:Nat} (hi:i < np t.length):PcOk R n ((st+off L m) % n) (ag m) (F+m) t.length i:=by
 rw [PcOk,h.at_ ht hi]
 exact ⟨rfl,rfl,rfl,rfl,rfl⟩
theorem RingG.end_ (h:RingG R n F st ag L) (a s:Nat) : ¬ PcOk R n ((st+off L L.length) % n) a (F+L.length) s 0:=fun q=>by
 have h1:=q.2.2.1
 have h2:=h.nu (((st+off L L.length) % n+0) % n) (Nat.mod_lt _ h.n_pos)
 omega
end
theorem recordG {R:Nat→Ct} {b o n F st:Nat} {ag:Nat→Nat} {L:List (List UInt8)} (h:RingG R n F st ag L) {m:Nat} (hm:m≤L.length) (hn:n≤1024) :
  ∃ (tv:ByteArray) (bb:Bool),(∀ (c:Nat) (W:World),RowCt W b o n R→Calls Tryz.prog 152 #[.slice (some ⟨b,o,none⟩) n c, .int .i64 (((st+off L m) % n:Nat):Int), .agg #[.int .i64 2, .int .i64 ((R ((st+off L m) % n)).ag:Int), .int .i64 ((F+m:Nat):Int), .int .i64 0, .int .i64 ((R ((st+off L m) % n)).sz:Int)]] W
    fun e w'=>e = .returned (.tuple #[.string tv, .bool bb])∧Below W.heap.size W w') ∧
   ((bb=true ∧ ∃ t,L[m]? = some t∧tv=⟨t.toArray⟩∧(R ((st+off L m) % n)).ag=ag m∧(R ((st+off L m) % n)).sz=t.length)∨(bb=false∧m=L.length)):=by
 have hlt:(st+off L m) % n < n:=Nat.mod_lt _ h.n_pos
 by_cases hl:m < L.length
 ·have ht:L[m]? = some L[m]:=List.getElem?_eq_getElem hl
  have h0:=h.at_ ht (np_pos _)
  rw [Nat.add_zero,Nat.mod_mod] at h0
  have e1:(R ((st+off L m) % n)).ag=ag m:=by rw [h0];rfl
  have e2:(R ((st+off L m) % n)).sz=L[m].length:=by rw [h0];rfl
  have htx:=h.text ht
  refine ⟨⟨L[m].toArray⟩,true,fun c W hW => ?_, .inl ⟨rfl,_,ht,rfl,e1,e2⟩⟩
  rw [e1,e2]
  refine (record_any hW (by omega) hn hlt (h.len _ (List.mem_of_getElem? ht)) (fun j hj=>h.tx j hj) (fun _=>by rw [htx];intro e;have:=h.pos _ (List.mem_of_getElem? ht);rw [e] at this;simp at this)).mono ?_
  rintro e w' ⟨hb,hc⟩
  rcases hc with ⟨_,he⟩ | ⟨⟨i,hi,hno⟩,_⟩
  ·exact ⟨by rw [he,htx],hb⟩
  ·exact absurd (h.ok ht hi) hno
 ·obtain rfl:m=L.length:=by omega
  refine ⟨⟨#[]⟩,false,fun c W hW => ?_, .inr ⟨rfl,rfl⟩⟩
  refine (record_any hW (by omega) hn hlt (h.sz _ hlt) (fun j hj=>h.tx j hj) (fun q=>absurd (q 0 (np_pos _)) (h.end_ _ _))).mono ?_
  rintro e w' ⟨hb,hc⟩
  rcases hc with ⟨q,_⟩ | ⟨_,he⟩
  ·exact absurd (q 0 (np_pos _)) (h.end_ _ _)
  ·exact ⟨he,hb⟩
end Go.Proofs.YtcodpnbemdflcaaGreatDoor

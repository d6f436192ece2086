/-
  Package redo: what Append does with the disk (its function literal), in a ring that does not wrap: a contract.
  Package redo: Append, where there is room in a ring that does not wrap; Force: contracts at a disk that has not stopped.
  Package redo: Force: a contract at a disk that has not stopped.
-/
import Derived.Test.YtcodpnbemdflcaaGreatDoorTg38
namespace Go.Proofs.YtcodpnbemdflcaaGreatDoor
open Go.RowKit
theorem pc_ok {ag nu:Nat} {t:List UInt8} {i:Nat} (h2:ag≤2147483647) (h4:nu≤2147483647) (h6:t.length≤1024) (hi:i≤2147483647):(pc ag nu t i).Ok :=
 ⟨by simp [pc],by simp [pc],h2,h4,hi,by show t.length≤_;omega,by simp [pc];omega⟩
theorem part_str (t:List UInt8) (j b:Nat) (hb:b=(j+1)*36∨b=t.length∧t.length≤(j+1)*36):(ByteArray.mk t.toArray).extract (j*36) b=⟨((t.drop (36*j)).take 36).toArray⟩:=by
 rw [ByteArray.extract_mk,Nat.mul_comm j 36]
 congr 2
 rcases hb with rfl | ⟨rfl,h⟩
 ·rw [show (j+1)*36 - 36*j=36 by omega]
 ·rw [List.take_of_length_le (by rw [List.length_drop];omega),List.take_of_length_le (by rw [List.length_drop];omega)]
end Go.Proofs.YtcodpnbemdflcaaGreatDoor
namespace Go.Proofs.YtcodpnbemdflcaaGreatDoor
open Go.RowKit
theorem off_all (T:List (List UInt8)):(szs T T.length).sum=off T T.length:=rfl
theorem szs_snoc (T:List (List UInt8)) (t:List UInt8):szs (T ++ [t]) (T ++ [t]).length=szs T T.length ++ [np t.length]:=by
 unfold szs
 rw [List.take_of_length_le (Nat.le_refl _),List.take_of_length_le (Nat.le_refl _)]
 simp
theorem bel_al {a w:World} (h:Below a.heap.size a w) (o:Obj):Below a.heap.size a (w.alloc o):=h.alloc h.size o
end Go.Proofs.YtcodpnbemdflcaaGreatDoor
namespace Go.Proofs.YtcodpnbemdflcaaGreatDoor
open Go.RowKit
set_option maxHeartbeats 1000000 in
theorem force_log {w:World} {g p q r n fr se ag fi st:Nat} {z:Value} {S:Dk} (hL:LAt w g p fr se ag fi st z) (hd:DAt w p q r n S) (hg:Goes S) :
  Calls Tryz.prog 26 #[.pointer (some ⟨g,0,none⟩)] w (Tld w p q r n (flushS S) 0):=by
 have kn:=none_any hL
 have hf:=flush_any hd (flS_flush hg).symm (flE_flush hg).symm
 have c0:=hL.c0
 clear hL hd hg
 go_enter Tryz.func26,Tryz.ntmps26
 go_wp2_with (first | (go_at_call 57;refine kn.mono ?_;rintro e w1 ⟨rfl,hw1⟩;subst hw1) | (go_at_call 58;refine hf.mono ?_;rintro e w1 ⟨rfl,hD,hO⟩;have HF:=Lib.hid (And.intro hD hO);clear hD hO))
 go_ret
 exact ⟨rfl,HF.out.1,HF.out.2⟩
end Go.Proofs.YtcodpnbemdflcaaGreatDoor

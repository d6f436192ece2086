/-
  Package redo: a sector is written; the part's name; the root is laid down (settle): contracts at a disk that has not stopped.
  Package redo: the part's name; the root is laid down (settle): contracts at a disk that has not stopped.
  Package redo: what a part's sectors have (contents): a contract.
  Package redo: whether a content may be a record's piece (isPiece), where it is one: a contract.
  Package redo: what lies in the part is taken up (load): contracts, where nothing lies there, and where a log lies there whose root tells of no record.
-/
import Derived.Test.YtcodpnbemdflcaaGreatDoorTg36
import Derived.Deep.RegionHeld3
import Derived.Test.YtcodpnbemdflcaaGreatDoorTg33
import Derived.Test.YtcodpnbemdflcaaGreatDoorTg35
import Derived.BigRegion
namespace Go.Proofs.YtcodpnbemdflcaaGreatDoor
open Go.RowKit
structure Goes (S:Dk):Prop where
 down:S.down=false
 left:S.left=0
def setS (S:Dk) (k:Nat) (x:List UInt8):Dk := { S with now:=fun j=>if j=k then x else S.now j,had:=remH S k }
theorem Goes.set {S:Dk} (h:Goes S) (k:Nat) (x:List UInt8):Goes (setS S k x):=⟨h.down,h.left⟩
theorem full_64 {x:List UInt8} (h:x.length=64):full64 x=x:=by simp [full64,h]
theorem wrS_set {S:Dk} (h:Goes S) {n k:Nat} (hk:k < n) {x:List UInt8} (hx:x.length=64):wrS n S (k:Int) x=setS S k x:=by
 have h1:S.down=false∧(0≤(k:Int)∧(k:Int) < n)∧x.length≤64:=⟨h.down,⟨by omega,by omega⟩,by omega⟩
 rw [wrS,if_pos h1,Int.toNat_natCast,didS,if_neg (by show ¬ 0 < S.left;rw [h.left];omega),putS,full_64 hx]
 rfl
theorem wrE_set {S:Dk} (h:Goes S) {n k:Nat} (hk:k < n) {x:List UInt8} (hx:x.length=64):wrE n S (k:Int) x=0:=by
 rw [wrE,h.down,if_neg (by simp),if_neg (by omega),if_neg (by omega)]
def flushS (S:Dk):Dk := { S with had:=fun _=>none }
theorem Goes.flush {S:Dk} (h:Goes S):Goes (flushS S):=⟨h.down,h.left⟩
theorem flS_flush {S:Dk} (h:Goes S):flS S=flushS S:=by
 have h1:=h.down
 have h2:=h.left
 cases S
 simp_all [flS,didS,flushS]
theorem flE_flush {S:Dk} (h:Goes S):flE S=0:=by
 rw [flE,h.down]
 rfl
def Did (w:World) (p q r n:Nat) (T:Dk) (e:Ending) (w':World):Prop:=e = .returned (.tuple #[])∧DAt w' p q r n T∧Oth (ds p q r) w w'
section
variable {w:World} {g p fr se ag fi st q r n:Nat} {z:Value} {S:Dk}
theorem LAt.oth (h:LAt w g p fr se ag fi st z) {w':World} (ho:Oth (ds p q r) w w') (hg : ¬ ds p q r g):LAt w' g p fr se ag fi st z:=h.keep (ho.block g h.lt hg)
set_option maxHeartbeats 2000000 in
theorem write_log (h:LAt w g p fr se ag fi st z) (hd:DAt w p q r n S) (hg:Goes S) {k:Nat} (hk:k < n) {c:Ct} (hc:c.Ok) :
  Calls Tryz.prog 96 #[.pointer (some ⟨g,0,none⟩), .int .i64 (k:Int),c.val] w (Did w p q r n (setS S k c.laid)):=by
 have hlen:=hc.len
 have HC:=Lib.hid hc
 have HG:=Lib.hid hg
 have HD:=Lib.hid (hd.alloc (.cells c.cs.toArray 152))
 have HL:=Lib.hid (h.alloc (.cells c.cs.toArray 152))
 have HO:Hid (Oth (ds p q r) w (w.alloc (.cells c.cs.toArray 152))):=Lib.hid ((Oth.refl _ w).alloc _)
 have HK:=Lib.hid (Whole.new w c.cs.toArray 152)
 have Hl:=Lib.hid (laid_any hc)
 have Hx:=Lib.hid hlen
 obtain ⟨x,hx⟩ : ∃ x,x=c.laid:=⟨_,rfl⟩
 rw [← hx] at Hx Hl ⊢
 clear h hd hc hg hlen hx
 unfold Ct.val Ct.cs sv at *
 go_enter Tryz.func96,Tryz.ntmps96
 go_wp2_with fail
 have c0 : ∀ W,W=w.alloc (.cells #[.int .i64 (c.kd:Int), .int .i64 (c.ag:Int), .int .i64 (c.nu:Int), .int .i64 (c.pl:Int), .int .i64 (c.sz:Int), .string ⟨c.tx.toArray⟩] 152)→DAt W p q r n S∧LAt W g p fr se ag fi st z∧Oth (ds p q r) w W∧Whole W w.heap.size 152 [.int .i64 (c.kd:Int), .int .i64 (c.ag:Int), .int .i64 (c.nu:Int), .int .i64 (c.pl:Int), .int .i64 (c.sz:Int), .string ⟨c.tx.toArray⟩]:=by
  rintro W rfl
  exact ⟨HD.out,HL.out,HO.out,HK.out⟩
 clear HD HL HO HK
 generalize w.alloc (.cells #[.int .i64 (c.kd:Int), .int .i64 (c.ag:Int), .int .i64 (c.nu:Int), .int .i64 (c.pl:Int), .int .i64 (c.sz:Int), .string ⟨c.tx.toArray⟩] 152)=W at c0 ⊢
 obtain ⟨hD,hL,hO,hK⟩:=c0 W rfl
 clear c0
 have HD:=Lib.hid hD.drew
 have HO:=Lib.hid (show Oth (ds p q r) w W.drew from hO.drew)
 have HLL:=Lib.hid hL.drew
 have c0:=hL.drew.c0
 have k0:W.drew.cell? ⟨w.heap.size,0,none⟩=_:=hK.cell 0
 have k1:W.drew.cell? ⟨w.heap.size,1,none⟩=_:=hK.cell 1
 have k2:W.drew.cell? ⟨w.heap.size,2,none⟩=_:=hK.cell 2
 have k3:W.drew.cell? ⟨w.heap.size,3,none⟩=_:=hK.cell 3
 have k4:W.drew.cell? ⟨w.heap.size,4,none⟩=_:=hK.cell 4
 have k5:W.drew.cell? ⟨w.heap.size,5,none⟩=_:=hK.cell 5
 simp only [List.getElem?_cons_succ,List.getElem?_cons_zero] at k0 k1 k2 k3 k4 k5
 clear hD hL hO hK HC
 go_region_with (first | (go_at_call 136;refine (Hl.out _).mono ?_;rintro e w1 ⟨v1,rfl,hown1,hb1⟩;obtain ⟨A1,c1,rfl,hc1,hm1,hr1⟩:=hown1.shapeN Hx.out;have d0:=(HLL.out.below hb1).c0;have hD1:=HD.out.below hb1;have hA1 : ∀ a,A1=some a → ¬ ds p q r a.block:=(by intro a ha hq;subst ha;have h1:=(hown1.lt a.block rfl).1;have h2:=HD.out.lt hq;omega);have hW:=dwrite_any (m:=64) (c:=c1) hD1 (k:Int) hr1 (fun _=>hA1) (wrS_set HG.out hk Hx.out).symm (wrE_set HG.out hk Hx.out).symm;have HO1:=Lib.hid (HO.out.trans (Oth.of_below hb1 (ds p q r)));clear hD1 hA1) | (go_at_call 34;refine hW.mono ?_;rintro e w2 ⟨rfl,hD2,hO2⟩;have HF:=Lib.hid (And.intro hD2 (HO1.out.trans hO2));clear hD2 hO2) | (go_at_call 108;refine (done_yes _).mono ?_;rintro e w3 ⟨rfl,rfl⟩))
 all_goals (
  go_wp2
  go_end0
  exact ⟨rfl,HF.out.1,HF.out.2⟩)
end
end Go.Proofs.YtcodpnbemdflcaaGreatDoor
namespace Go.Proofs.YtcodpnbemdflcaaGreatDoor
open Go.RowKit
def nameOf (fr se:Nat):List UInt8:=nbs [fr,se]
theorem nameOf_length (fr se:Nat):(nameOf fr se).length=8:=by simp [nameOf,nbs_length]
def TellsS (w:World) (l:List UInt8) (e:Ending) (w':World):Prop:=e = .returned (.string ⟨l.toArray⟩)∧Below w.heap.size w w'
section
variable {w:World} {g p fr se ag fi st q r n:Nat} {z:Value} {S:Dk}
set_option maxHeartbeats 2000000 in
theorem name_any (h:LAt w g p fr se ag fi st z) (h1:fr≤4096) (h2:se≤4096):Calls Tryz.prog 105 #[.pointer (some ⟨g,0,none⟩)] w (TellsS w (nameOf fr se)):=by
 have c1:=h.drew.c1
 have c2:=h.drew.c2
 have hb0:Below w.heap.size w (w.drew.alloc (.cells #[.int .i64 (fr:Int), .int .i64 (se:Int)] 3)):=(Below.refl _ _).drew.alloc (Nat.le_refl _) _
 have K:=fun W=>lnumbers_any (A:=some ⟨w.drew.heap.size,0,none⟩) (n:=2) (c:=2) (l := [fr,se]) (w:=W)
 have hr:=(Whole.new w.drew #[.int .i64 (fr:Int), .int .i64 (se:Int)] 3).rd
 have K1:=K (w.drew.alloc (.cells #[.int .i64 (fr:Int), .int .i64 (se:Int)] 3)) (by simpa [nts] using hr) (by omega) (by intro x hx;simp at hx;omega)
 have hl:(nbs [fr,se]).length=8:=by simp [nbs_length]
 have HL:=Lib.hid hl
 have HB:=Lib.hid hb0
 have hK:=Lib.hid K1
 clear h K hr K1 hl hb0
 unfold nameOf
 go_enter Tryz.func105,Tryz.ntmps105
 go_wp2_with fail
 go_region_with (go_at_call 151;refine hK.out.mono ?_;rintro e w1 ⟨v1,rfl,hown1,hb1⟩;obtain ⟨A1,c1',rfl,hc1,hm1,hr1⟩:=hown1.shapeN HL.out;have kc:=hr1.conv (P:=Tryz.prog) c1' 93 5 9 Tryz.underlying93 Tryz.underlying5 Tryz.underlying9;have HF:=Lib.hid (HB.out.trans (hb1.mono HB.out.size));clear hown1 hb1 hr1)
 all_goals (
  go_wp2
  go_ret
  exact ⟨rfl,HF.out⟩)
def rootC (fr se ag fi st m:Nat):Ct:=⟨1,ag,fi,st,m,nameOf fr se⟩
theorem rootC_ok {fr se ag fi st m:Nat} (h1:ag≤2147483647) (h2:fi≤2147483647) (h3:st≤2147483647) (h4:m≤2147483647):(rootC fr se ag fi st m).Ok :=
 ⟨by simp [rootC],by simp [rootC],h1,h2,h3,h4,by show (nameOf fr se).length≤36;rw [nameOf_length];omega⟩
def settleS (S:Dk) (fr se ag fi st m:Nat):Dk:=flushS (setS (flushS S) fr (rootC fr se ag fi st m).laid)
set_option maxRecDepth 100000 in
set_option maxHeartbeats 4000000 in
theorem settle_any {A:Option Addr} {m c:Nat} (h:LAt w g p fr se ag fi st (.slice A m c)) (hd:DAt w p q r n S) (hg:Goes S) (hgx : ¬ ds p q r g) (h1:fr < n) (h2:se≤4096) (h3:ag≤2147483647) (h4:fi≤2147483647) (h5:st≤2147483647) (h6:m≤2147483647) :
  Calls Tryz.prog 68 #[.pointer (some ⟨g,0,none⟩)] w (Did w p q r n (settleS S fr se ag fi st m)):=by
 have c0:=h.c0
 have HC:=Lib.hid (rootC_ok (fr:=fr) (se:=se) h3 h4 h5 h6)
 have hF:=flush_any hd (flS_flush hg).symm (flE_flush hg).symm
 have HG:=Lib.hid hg.flush
 have HL:=Lib.hid h
 have Hgx:=Lib.hid hgx
 have hn:=hd.most
 clear h hd hg hgx
 obtain ⟨T,hT⟩ : ∃ T,T=settleS S fr se ag fi st m:=⟨_,rfl⟩
 rw [← hT]
 have HT:=Lib.hid hT
 clear hT
 go_enter Tryz.func68,Tryz.ntmps68
 go_wp2_with (first | (go_at_call 58;refine hF.mono ?_;rintro e w1 ⟨rfl,hD1,hO1⟩) | (go_at_call 108;refine (done_yes _).mono ?_;rintro e w3 ⟨rfl,rfl⟩))
 have hL1:=HL.out.oth hO1 Hgx.out
 have HL1:=Lib.hid hL1.drew
 have HD1:=Lib.hid hD1.drew
 have HO1:=Lib.hid (show Oth (ds p q r) w w3.drew from hO1.drew)
 have d1:=hL1.drew.c1
 have d3:=hL1.drew.c3
 have d4:=hL1.drew.c4
 have d5:=hL1.drew.c5
 have d6:=hL1.drew.c6
 clear hL1 hD1 hO1 c0 hF
 have hW : ∀ W,LAt W g p fr se ag fi st (.slice A m c)→DAt W p q r n (flushS S)→Calls Tryz.prog 96 #[.pointer (some ⟨g,0,none⟩), .int .i64 (fr:Int), .agg #[.int .i64 1, .int .i64 (ag:Int), .int .i64 (fi:Int), .int .i64 (st:Int), .int .i64 (m:Int), .string ⟨(nameOf fr se).toArray⟩]] W (Did W p q r n (setS (flushS S) fr (rootC fr se ag fi st m).laid)):=fun W hL hD=>write_log hL hD HG.out h1 HC.out
 have HW:=Lib.hid hW
 clear hW
 have S1:=Lib.hid (And.intro d1 (And.intro d3 (And.intro d4 (And.intro d5 d6))))
 clear d1 d3 d4 d5 d6
 go_region_held3 (fun w'=>w'.cell? ⟨g,1,none⟩=some (.int .i64 (fr:Int))∧w'.cell? ⟨g,3,none⟩=some (.int .i64 (ag:Int))∧w'.cell? ⟨g,4,none⟩=some (.int .i64 (fi:Int))∧w'.cell? ⟨g,5,none⟩=some (.int .i64 (st:Int))∧w'.cell? ⟨g,6,none⟩=some (.slice A m c)) (first | exact S1.out | exact S4.out | exact S5.out) (first | (go_at_call 105;refine (name_any HL1.out (by omega) h2).mono ?_;rintro e w4 ⟨rfl,hb4⟩;have HL4:=Lib.hid (HL1.out.below hb4);have HD4:=Lib.hid (HD1.out.below hb4);have HO4:=Lib.hid (HO1.out.trans (Oth.of_below hb4 (ds p q r)));have S4:=Lib.hid (And.intro HL4.out.c1 (And.intro HL4.out.c3 (And.intro HL4.out.c4 (And.intro HL4.out.c5 HL4.out.c6))));clear hb4) | (go_at_call 96;refine (HW.out _ HL4.out HD4.out).mono ?_;rintro e w5 ⟨rfl,hD5,hO5⟩;have HL5:=Lib.hid (HL4.out.oth hO5 Hgx.out);have HD5:=Lib.hid hD5;have HO5:=Lib.hid (HO4.out.trans hO5);have S5:=Lib.hid (And.intro HL5.out.c1 (And.intro HL5.out.c3 (And.intro HL5.out.c4 (And.intro HL5.out.c5 HL5.out.c6))));clear hD5 hO5))
 all_goals (
  have hL6:=HL5.out
  have hF6:=flush_any HD5.out (flS_flush (HG.out.set fr (rootC fr se ag fi st m).laid)).symm (flE_flush (HG.out.set fr (rootC fr se ag fi st m).laid)).symm
  have g0:=hL6.c0
  clear hL6 HL1 HD1 HO1 HL4 HD4 HO4 HL5 HD5 S1 S4 S5 HL
  go_wp2_with (first | (go_at_call 58;refine hF6.mono ?_;rintro e w6 ⟨rfl,hD6,hO6⟩) | (go_at_call 108;refine (done_yes _).mono ?_;rintro e w7 ⟨rfl,rfl⟩))
  have HF:=Lib.hid (And.intro hD6 (HO5.out.trans hO6))
  clear hD6 hO6
  go_end0
  exact ⟨rfl,by rw [HT.out];exact HF.out.1,HF.out.2⟩)
end
end Go.Proofs.YtcodpnbemdflcaaGreatDoor
namespace Go.Proofs.YtcodpnbemdflcaaGreatDoor
open Go.RowKit
theorem madeCt (w:World) (n:Nat):CtBlk (w.alloc (.cells (madeCells #[.int .i64 0, .int .i64 0, .int .i64 0, .int .i64 0, .int .i64 0, .string ⟨#[]⟩] (n*6)) 152)) w.heap.size n (fun _=>Ct.zero):=by
 refine ⟨_,Whole.new w _ 152,by simp [size_madeCells],fun j hj i v hv => ?_⟩
 have hi:i < 6:=(List.getElem?_eq_some_iff.1 hv).1
 have hm:(j*6+i) % 6=i:=by omega
 rw [Array.getElem?_toList,Array.getElem?_eq_getElem (by simp [size_madeCells];omega)]
 simp only [madeCells]
 rcases (by omega:i=0∨i=1∨i=2∨i=3∨i=4∨i=5) with rfl | rfl | rfl | rfl | rfl | rfl <;> simp_all [Ct.cs,Ct.zero,sv]
theorem make_cts {k:Nat} (hk:k≤4096) (W:World):(Instr.makeSlice 160 (.int .i64 (k:Int)) (.int .i64 (k:Int))).run Tryz.prog W = .ok (.slice (some ⟨W.heap.size,0,none⟩) k k) (W.alloc (.cells (madeCells #[.int .i64 0, .int .i64 0, .int .i64 0, .int .i64 0, .int .i64 0, .string ⟨#[]⟩] (k*6)) 152)):=by
 obtain ⟨i0,hi,hz0,hz1,hz2⟩:=info_parts Tryz.infoCt
 have h:=run_make (P:=Tryz.prog) W 160 152 i0 _ Tryz.underlying160 hi hz0 .i64 .i64 (k:Int) (k:Int) (by omega) (by omega) (by rw [hz2];omega) (by omega)
 rw [h,Int.toNat_natCast,hz1]
 rfl
def CosPost (w:World) (n:Nat) (C:Nat→Ct) (e:Ending) (w':World):Prop := ∃ b,e = .returned (.slice (some ⟨b,0,none⟩) n n)∧CtBlk w' b n C∧w.heap.size≤b∧Below w.heap.size w w'
theorem readSector_cells {A:Option Addr} {n:Nat} {x:List UInt8} {c:Ct} {w:World} (hc:Sec x c) (h:Rd w A 64 x) (hn:64≤n) (hm:n≤maxLen) :
  Calls Tryz.prog 149 #[.slice A 64 n] w fun e w'=>e = .returned (.agg #[.int .i64 (c.kd:Int), .int .i64 (c.ag:Int), .int .i64 (c.nu:Int), .int .i64 (c.pl:Int), .int .i64 (c.sz:Int), .string ⟨c.tx.toArray⟩])∧Below w.heap.size w w' :=
 readSector_any hc h hn hm
theorem CtBlk.congr {w:World} {g n:Nat} {C C':Nat→Ct} (h:CtBlk w g n C) (he : ∀ j,j < n→C j=C' j):CtBlk w g n C':=by
 obtain ⟨l,h1,h2,h3⟩:=h
 exact ⟨l,h1,h2,fun j hj i v hv=>h3 j hj i v (by rw [he j hj];exact hv)⟩
def upTo (C:Nat→Ct) (k:Nat):Nat→Ct:=fun j=>if j < k then C j else Ct.zero
theorem upTo_succ (C:Nat→Ct) (k:Nat):(fun j=>if j=k then C k else upTo C k j)=upTo C (k+1):=by
 funext j
 unfold upTo
 by_cases h:j=k
 ·subst h
  simp
 ·by_cases h2:j < k
  ·rw [if_neg h,if_pos h2,if_pos (by omega)]
  ·rw [if_neg h,if_neg h2,if_neg (by omega)]
section
variable {w:World} {g p fr se ag fi st q r n:Nat} {z:Value} {S:Dk} {C:Nat→Ct}
set_option maxRecDepth 20000 in
set_option maxHeartbeats 1000000 in
theorem contents_any (h:LAt w g p fr se ag fi st z) (hd:DAt w p q r n S) (h1:fr+se≤n) (h2:1≤se) (hC : ∀ j,j < se→Sec (S.now (fr+j)) (C j)) :
  Calls Tryz.prog 103 #[.pointer (some ⟨g,0,none⟩)] w (CosPost w se C):=by
 have c2:=h.c2
 have hn:=hd.most
 have hmk:=make_cts (k:=se) (by omega)
 have hM:=madeCt w se
 have hb0:Below w.heap.size w (w.alloc (.cells (madeCells #[.int .i64 0, .int .i64 0, .int .i64 0, .int .i64 0, .int .i64 0, .string ⟨#[]⟩] (se*6)) 152)):=(Below.refl _ _).alloc (Nat.le_refl _) _
 generalize Obj.cells (madeCells #[.int .i64 0, .int .i64 0, .int .i64 0, .int .i64 0, .int .i64 0, .string ⟨#[]⟩] (se*6)) 152=ob at hmk hM hb0
 have HL:=Lib.hid h
 have HD:=Lib.hid hd
 have HC:=Lib.hid hC
 clear h hd hC
 go_enter Tryz.func103,Tryz.ntmps103
 go_wp2
 clear hmk c2
 go_loopw [12] (fun i wr => ∃ k:Nat,k≤se∧i = .int .i64 (k:Int)∧CtBlk wr w.heap.size se (upTo C k)∧Below w.heap.size w wr) (fun i _=>se - (Go.RowKit.intOf i).toNat)
 case atStart=>exact ⟨0,Nat.zero_le _,rfl,hM.congr fun j hj=>rfl,hb0⟩
 case round =>
  obtain ⟨k,hk,rfl,hK,hb⟩:=hrel
  clear hM hb0
  by_cases hlt:k < se
  ·have hs:=HC.out k hlt
   have hL:=(HL.out.below hb).drew
   have hD:=(HD.out.below hb).drew
   have hx:=hD.len (fr+k) (by omega)
   have hsz:=HL.out.lt
   have hRd:=read_any hD ((fr+k:Nat):Int) (l:=S.now (fr+k)) (er:=0) (by rw [rdL,if_pos (by omega),Int.toNat_natCast]) (by rw [rdE,if_pos (by omega)])
   rw [Int.natCast_add] at hRd
   have S1:=Lib.hid (And.intro hL.c0 hL.c1)
   have HB:=Lib.hid (show Below w.heap.size w wr.drew from hb.drew)
   have HK:=Lib.hid (show CtBlk wr.drew w.heap.size se (upTo C k) from hK)
   have HLL:=Lib.hid hL
   have HS:=Lib.hid hs
   have HX:=Lib.hid hx
   have Hsz:=Lib.hid hsz
   clear hs hL hD hx hb hK hsz
   go_wp2_with fail
   have HRd:=Lib.hid hRd
   have hwr:IntKind.i64.wrap ((fr:Int)+(k:Int))=(fr:Int)+(k:Int):=IntWalk.i64_in _ (by omega)
   have d0:=S1.out.1
   have d1:=S1.out.2
   clear hRd S1
   go_region_with (first | (go_at_call 32;refine HRd.out.mono ?_;rintro e w1 ⟨v1,rfl,hown1,hb1⟩;obtain ⟨A1,c1,rfl,hc1,hm1,hr1⟩:=hown1.shapeN HX.out;have HR1:=Lib.hid hr1;have HB1:=Lib.hid hb1;clear d0 d1 hown1 hb1 hr1) | (go_at_call 150;refine (need_yes _ _ _ _).mono ?_;rintro e w2 ⟨rfl,rfl⟩) | (go_at_call 149;refine (readSector_cells HS.out HR1.out hc1 hm1).mono ?_;rintro e w3 ⟨rfl,hb3⟩;have hb4:=HB1.out.trans (hb3.mono HB1.out.size);have HK3:=Lib.hid (HK.out.below hb4);have HB3:=Lib.hid (HB.out.trans (hb4.mono HB.out.size));obtain ⟨v0,y0⟩:=HK3.out.cell hlt (i:=0) (by omega);obtain ⟨v1,y1⟩:=HK3.out.cell hlt (i:=1) (by omega);obtain ⟨v2,y2⟩:=HK3.out.cell hlt (i:=2) (by omega);obtain ⟨v3,y3⟩:=HK3.out.cell hlt (i:=3) (by omega);obtain ⟨v4,y4⟩:=HK3.out.cell hlt (i:=4) (by omega);obtain ⟨v5,y5⟩:=HK3.out.cell hlt (i:=5) (by omega);have z0:=HK3.out.free (k*6);have z1:=HK3.out.free (k*6+1);have z2:=HK3.out.free (k*6+2);have z3:=HK3.out.free (k*6+3);have z4:=HK3.out.free (k*6+4);have z5:=HK3.out.free (k*6+5);rw [Nat.add_zero] at y0;clear hb3 hb4))
   all_goals (
    have hKF:=HK3.out.set hlt (C k)
    rw [upTo_succ] at hKF
    have hBF:=below_grown HB3.out (grown_sets6 (wr:=w3) (b:=w.heap.size) (o:=k*6) (.int .i64 ((C k).kd:Int)) (.int .i64 ((C k).ag:Int)) (.int .i64 ((C k).nu:Int)) (.int .i64 ((C k).pl:Int)) (.int .i64 ((C k).sz:Int)) (.string ⟨(C k).tx.toArray⟩)) HB3.out.size (Nat.le_refl _)
    have HF:=Lib.hid (And.intro hKF hBF)
    clear hKF hBF HK3 HB3 y0 y1 y2 y3 y4 y5 z0 z1 z2 z3 z4 z5 HRd HS HLL HR1 HB1
    go_wp2
    go_roundw
    case rel=>exact ⟨k+1,hlt,by go_num,HF.out.1,HF.out.2⟩
    case measure=>simp [Go.RowKit.intOf];omega)
  ·obtain rfl:k=se:=by omega
   clear hlt
   go_wp2
   go_ret
   exact ⟨w.heap.size,rfl,hK.congr fun j hj=>by rw [upTo,if_pos hj],Nat.le_refl _,hb⟩
end
end Go.Proofs.YtcodpnbemdflcaaGreatDoor
namespace Go.Proofs.YtcodpnbemdflcaaGreatDoor
open Go.RowKit
structure IsPc (c:Ct) (age:Nat):Prop where
 kd:c.kd=2
 a1:1≤c.ag
 a2:c.ag≤age
 a3:age≤2147483647
 nu:1≤c.nu
 n2:c.nu≤2147483647
 sz:c.sz≤1024
 pl:c.pl < np c.sz
 tx:(c.tx.length:Int)=min 36 ((c.sz:Int) - (c.pl:Int)*36)
set_option maxRecDepth 20000 in
set_option maxHeartbeats 1000000 in
theorem isPiece_yes {c:Ct} {age:Nat} (h:IsPc c age) (w:World):Calls Tryz.prog 106 #[c.val, .int .i64 (age:Int)] w fun e w'=>e = .returned (.bool true)∧Below w.heap.size w w':=by
 obtain ⟨hk,h1,h2,h3,h4,h5,h6,h7,h8⟩:=h
 have K:=Whole.new w c.cs.toArray 152
 have HB:Below w.heap.size w (w.alloc (.cells c.cs.toArray 152)):=(Below.refl _ _).alloc (Nat.le_refl _) _
 have hsz:((ByteArray.mk c.tx.toArray).size:Int)=min 36 ((c.sz:Int) - (c.pl:Int)*36):=by
  rw [← h8]
  show ((c.tx.toArray.size:Nat):Int)=_
  simp
 have hkp : ∀ nq,Calls Tryz.prog 93 #[.int .i64 (c.sz:Int)] ((w.alloc (.cells c.cs.toArray 152)).drewN nq) fun e w'=>e = .returned (.int .i64 ((np c.sz:Nat):Int))∧w'=(w.alloc (.cells c.cs.toArray 152)).drewN nq:=fun nq=>pieces_any c.sz (by omega) _
 have hnp:np c.sz≤29:=by unfold np;omega
 have hp2:c.pl≤29:=by omega
 have d1:decide ((1:Int)≤(c.ag:Int))=true:=by simp;omega
 have d2:decide ((c.ag:Int)≤(age:Int))=true:=by simp;omega
 have d3:decide ((1:Int)≤(c.nu:Int))=true:=by simp;omega
 have d4:decide ((c.sz:Int)≤1024)=true:=by simp;omega
 have d5:decide ((c.pl:Int) < ((np c.sz:Nat):Int))=true:=by simp;omega
 have e2:decide (c.ag≤age)=true:=decide_eq_true h2
 have e5:decide (c.pl < np c.sz)=true:=decide_eq_true h7
 have w1:IntKind.i64.wrap ((c.pl:Int)*36)=(c.pl:Int)*36:=IntWalk.i64_in _ (by omega)
 have w2:IntKind.i64.wrap ((c.sz:Int) - (c.pl:Int)*36)=(c.sz:Int) - (c.pl:Int)*36:=IntWalk.i64_in _ (by omega)
 unfold Ct.val Ct.cs sv at *
 rw [hk] at *
 simp only [Int.cast_ofNat_Int] at *
 generalize ByteArray.mk c.tx.toArray=s at *
 generalize c.sz=sz at *
 generalize c.pl=pl at *
 generalize c.ag=ag at *
 generalize c.nu=nu at *
 clear h1 h2 h4 h8
 go_enter Tryz.func106,Tryz.ntmps106
 go_wp2_with fail
 have k0:=K.cell 0
 have k1:=K.cell 1
 have k2:=K.cell 2
 have k3:=K.cell 3
 have k4:=K.cell 4
 have k5:=K.cell 5
 simp only [List.getElem?_cons_succ,List.getElem?_cons_zero] at k0 k1 k2 k3 k4 k5
 clear K
 generalize w.alloc (.cells #[.int .i64 2, .int .i64 (ag:Int), .int .i64 (nu:Int), .int .i64 (pl:Int), .int .i64 (sz:Int), .string s] 152)=W at *
 go_quiet ((go_at_call 93;exact Calls.quiet_of_same (hkp _)))
 have e9:(min 36 ((sz:Int) - (pl:Int)*36) == if (sz:Int) - (pl:Int)*36 < 36 then (sz:Int) - (pl:Int)*36 else 36)=true:=by
  rw [beq_iff_eq]
  split <;> omega
 rw [e9]
 clear e9 hkp k0 k1 k2 k3 k4 k5
 go_wp2
 all_goals (
  go_ret
  exact ⟨rfl,below_drewN HB _⟩)
end Go.Proofs.YtcodpnbemdflcaaGreatDoor
namespace Go.Proofs.YtcodpnbemdflcaaGreatDoor
open Go.RowKit
theorem elemCt:Tryz.prog.elem 160=152:=by simp [Program.elem,Tryz.underlying160]
theorem cut_cts (b n:Nat) (W:World):(Instr.slice 160 (.slice (some ⟨b,0,none⟩) (n+1) (n+1)) (some (.int .i64 1)) none none).run Tryz.prog W = .ok (if n=0 then .slice (some ⟨b,0,none⟩) n n else .slice (some ⟨b,6,none⟩) n n) W:=by
 obtain ⟨i0,hi,hz0,hz1,hz2⟩:=info_parts Tryz.infoCt
 rw [run_slice_l W 160 _ (n+1) (n+1) (by rw [elemCt];exact Tryz.underlying160) .i64 1 (by omega) (by omega),elemCt]
 simp only [sizeOf,typeInfo,Sem.run_bind,Sem.run_pure,Result.andThen,sliced]
 by_cases h:n=0
 ·subst h
  simp [hz1,hi]
 ·have : ¬ (n+1=1):=by omega
  simp [hz1,hi,h,add_plain]
def LoZero (w:World) (g p fr se ag st:Nat) (z:Value) (e:Ending) (w':World):Prop:=e = .returned (.slice none 0 0)∧LAt w' g p fr se ag 1 st z∧w.grownBy w' (some g)
set_option maxRecDepth 20000 in
set_option maxHeartbeats 2000000 in
theorem load_zero {w:World} {g p fr se ag fi st q r n n1:Nat} {z:Value} {S:Dk} (h:LAt w g p fr se ag fi st z) (hd:DAt w p q r n S) (h1:fr+se≤n) (hn1:se=n1+1) (h2:1≤n1) (hC : ∀ j,j < se→S.now (fr+j)=zs) :
  Calls Tryz.prog 67 #[.pointer (some ⟨g,0,none⟩)] w (LoZero w g p fr se ag st z):=by
 have hk:=contents_any (C:=fun _=>Ct.zero) h hd h1 (by omega) (fun j hj=>by rw [hC j hj];exact sec_zero)
 have hn:=hd.most
 have HL:=Lib.hid h
 clear h hd hC
 go_enter Tryz.func67,Tryz.ntmps67
 go_wp2_with (go_at_call 103;refine hk.mono ?_;rintro e w1 ⟨b,rfl,hB,hbb,hb⟩)
 clear hk
 have hR:=hB.row.drew
 have hR1:=(show RowCt w1 b 0 (n1+1) (fun _=>Ct.zero) by rw [← hn1];exact hB.row).tail
 obtain ⟨x0,x1,x2,x3,x4,x5⟩:=hR.get 0 (by omega)
 simp only [Nat.zero_mul,Nat.zero_add,Ct.zero,sv] at x0 x1 x2 x3 x4 x5 hR1
 have hbl:=hB.lt
 have y0 : ∀ o,(w1.alloc o).cell? ⟨b,0,none⟩=_:=fun o=>(World.cell?_alloc_lt w1 o ⟨b,0,none⟩ hbl).trans x0
 have y1 : ∀ o,(w1.alloc o).cell? ⟨b,1,none⟩=_:=fun o=>(World.cell?_alloc_lt w1 o ⟨b,1,none⟩ hbl).trans x1
 have y2 : ∀ o,(w1.alloc o).cell? ⟨b,2,none⟩=_:=fun o=>(World.cell?_alloc_lt w1 o ⟨b,2,none⟩ hbl).trans x2
 have y3 : ∀ o,(w1.alloc o).cell? ⟨b,3,none⟩=_:=fun o=>(World.cell?_alloc_lt w1 o ⟨b,3,none⟩ hbl).trans x3
 have y4 : ∀ o,(w1.alloc o).cell? ⟨b,4,none⟩=_:=fun o=>(World.cell?_alloc_lt w1 o ⟨b,4,none⟩ hbl).trans x4
 have y5 : ∀ o,(w1.alloc o).cell? ⟨b,5,none⟩=_:=fun o=>(World.cell?_alloc_lt w1 o ⟨b,5,none⟩ hbl).trans x5
 have hsl:=fun W=>cut_cts b n1 W
 simp only [if_neg (show ¬ n1=0 by omega)] at hsl
 subst hn1
 have HR1:=Lib.hid hR1
 have HB:=Lib.hid (show Below w.heap.size w w1.drew from hb.drew)
 have hln:(0:Int) < ((n1+1:Nat):Int):=by omega
 clear hR hB hb hR1 hbl
 go_region
 have hK:=(Whole.new w1 #[.int .i64 0, .int .i64 0, .int .i64 0, .int .i64 0, .int .i64 0, .string ⟨#[]⟩] 152).drew
 have hBa:Below w1.heap.size w1 (w1.alloc (.cells #[.int .i64 0, .int .i64 0, .int .i64 0, .int .i64 0, .int .i64 0, .string ⟨#[]⟩] 152)).drew:=((Below.refl _ _).alloc (Nat.le_refl _) _).drew
 have hRW:=HR1.out.below hBa
 have hBW:=(show Below w.heap.size w w1 from ⟨HB.out.os,HB.out.tape,HB.out.output,HB.out.size,HB.out.block⟩).trans (hBa.mono HB.out.size)
 generalize (w1.alloc (.cells #[.int .i64 0, .int .i64 0, .int .i64 0, .int .i64 0, .int .i64 0, .string ⟨#[]⟩] 152)).drew=W at hK hRW hBW ⊢
 have k0:=hK.cell 0
 simp only [List.getElem?_cons_zero] at k0
 have HRW:=Lib.hid hRW
 have HBW:=Lib.hid hBW
 clear hK hBa hRW hBW x0 x1 x2 x3 x4 x5 y0 y1 y2 y3 y4 y5 HR1 HB hsl
 go_wp2
 clear k0
 go_loopw [23] (fun i wr => ∃ k:Nat,k≤n1∧i = .int .i64 (k:Int)∧Below W.heap.size W wr) (fun i _=>n1 - (Go.RowKit.intOf i).toNat)
 case atStart=>exact ⟨0,Nat.zero_le _,rfl,Below.refl _ _⟩
 case round =>
  obtain ⟨k,hk,rfl,hb⟩:=hrel
  by_cases hlt:k < n1
  ·have hR:=HRW.out.below hb
   obtain ⟨x0,x1,x2,x3,x4,x5⟩:=hR.get k hlt
   simp only [sv] at x0 x1 x2 x3 x4 x5
   have hbf:=hb.alloc hb.size (.cells #[.int .i64 0, .int .i64 0, .int .i64 0, .int .i64 0, .int .i64 0, .string ⟨#[]⟩] 152)
   have hKn:=(Whole.new wr #[.int .i64 0, .int .i64 0, .int .i64 0, .int .i64 0, .int .i64 0, .string ⟨#[]⟩] 152)
   have HBF:=Lib.hid hbf
   have z0:=hKn.cell 0
   simp only [List.getElem?_cons_zero] at z0
   clear hR hb hbf hKn
   go_wp2_with (go_at_call 104;refine (insist_yes _).mono ?_;rintro e w7 ⟨rfl,hw7⟩;subst hw7)
   exact ⟨⟨k+1,hlt,by go_num,HBF.out⟩,by simp [Go.RowKit.intOf];omega⟩
  ·obtain rfl:k=n1:=by omega
   have hbw:=HBW.out.trans (hb.mono HBW.out.size)
   have hL:=HL.out.below hbw
   have c4:=hL.c4
   have f4:=hL.free 4
   have hL2:LAt (wr.setCell ⟨g,4,none⟩ (.int .i64 1)) g p fr (k+1) ag 1 st z:=hL.set4 1
   have hg2:w.grownBy (wr.setCell ⟨g,4,none⟩ (.int .i64 1)) (some g):=grown_trans (grown_below hbw _) (grown_set _ _ _ _)
   have HF:=Lib.hid (And.intro hL2 hg2)
   clear hL hL2 hg2 hbw hb HBW HRW hlt
   go_wp2
   go_ret
   exact ⟨rfl,HF.out.1,HF.out.2⟩
end Go.Proofs.YtcodpnbemdflcaaGreatDoor

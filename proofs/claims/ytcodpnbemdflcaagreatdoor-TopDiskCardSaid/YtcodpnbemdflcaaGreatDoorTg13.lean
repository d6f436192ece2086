/-
  Taking a block, by the program: contract of Take.
-/
import Derived.Test.YtcodpnbemdflcaaGreatDoorTg12
namespace Go.Proofs.YtcodpnbemdflcaaGreatDoor
open Go.RowKit
set_option maxHeartbeats 1000000 in
theorem take_refused (r:Int) (A:Option Addr) (n c:Nat) (l:List Blk) (t:Int) (w:World) (h:RdS w A n l) (hn:n≤1000) (hT:Tab w) (hm:mayTk r l t=false) :
  Calls Tryz.prog 85 #[.int .i64 r, .slice A n c, .int .i64 t] w (TakePost w r l t):=by
 have hB:=(Below.refl w.heap.size w).alloc (Nat.le_refl _) (.cells #[.int .i64 0, .int .i64 0] 57)
 have S:=mayTake_any r A n c l t _ (h.below hB) hn (hT.below hB)
 rw [hm] at S
 have HK:=Lib.hid (Whole.new w #[.int .i64 0, .int .i64 0] 57)
 have HB:=Lib.hid hB
 have hres:=Lib.hid (show TakeRes r l t (0,0) [] 1 from .inl ⟨hm,rfl,rfl,rfl⟩)
 clear h hB hT hm
 go_enter Tryz.func85,Tryz.ntmps85
 go_wp2_with (go_at_call 124;refine S.mono ?_;rintro e w2 ⟨rfl,b2⟩;have K:=Lib.hid (HK.out.below b2);have c0:=K.out.cell 0;have c1:=K.out.cell 1;have f0:=K.out.free)
 obtain ⟨K2,P⟩:=refused_post (b:=(0,0)) hres.out K.out (HB.out.trans (b2.mono HB.out.size)) rfl
 exact bodyPost_ret (results_box3 (b:=(0,0)) (p:=6) (q:=7) (u:=8) rfl _ _ w.heap.size rfl (K2.cell 0) (K2.cell 1)) rfl P
set_option maxHeartbeats 1000000 in
theorem take_full (r:Int) (A:Option Addr) (n c:Nat) (l:List Blk) (t:Int) (w:World) (h:RdS w A n l) (hn:n≤1000) (hT:Tab w) (hm:mayTk r l t=true) (hr:roomB l t=false) :
  Calls Tryz.prog 85 #[.int .i64 r, .slice A n c, .int .i64 t] w (TakePost w r l t):=by
 have hB:=(Below.refl w.heap.size w).alloc (Nat.le_refl _) (.cells #[.int .i64 0, .int .i64 0] 57)
 have S:=mayTake_any r A n c l t _ (h.below hB) hn (hT.below hB)
 have S2:=fun W (b:Below w.heap.size w W)=>hasRoom_any A n c l t W (h.below b) hn
 rw [hm] at S
 rw [hr] at S2
 have HK:=Lib.hid (Whole.new w #[.int .i64 0, .int .i64 0] 57)
 have HB:=Lib.hid hB
 have hres:=Lib.hid (show TakeRes r l t (0,0) [] 40 from .inr (.inl ⟨hm,hr,rfl,rfl,rfl⟩))
 clear h hB hT hm hr
 go_enter Tryz.func85,Tryz.ntmps85
 go_wp2_with (first | (go_at_call 124;refine S.mono ?_;rintro e w2 ⟨rfl,b2⟩;have B2:=HB.out.trans (b2.mono HB.out.size)) | (go_at_call 125;refine (S2 w2 B2).mono ?_;rintro e w3 ⟨rfl,b3⟩;have K:=Lib.hid ((HK.out.below b2).below b3);have c0:=K.out.cell 0;have c1:=K.out.cell 1;have f0:=K.out.free))
 obtain ⟨K2,P⟩:=refused_post (b:=(0,0)) hres.out K.out (B2.trans (b3.mono B2.size)) rfl
 exact bodyPost_ret (results_box3 (b:=(0,0)) (p:=6) (q:=7) (u:=8) rfl _ _ w.heap.size rfl (K2.cell 0) (K2.cell 1)) rfl P
structure TkMem (w:World) (kq kb g:Nat) (b:Blk) (H:List Blk) (vq:Value) (L:List Blk) (v:Value) (wr:World):Prop where
 qs:QS w w.heap.size w.heap.size [kb,kq,w.heap.size] g H vq L v wr
 kb_:Whole wr kb 57 [.int .i64 b.1, .int .i64 b.2]
 kq_:Whole wr kq 201 (qcs g)
 kr_:Whole wr w.heap.size 57 [.int .i64 0, .int .i64 0]
 ne:kb≠kq∧kb≠w.heap.size∧kq≠w.heap.size
section
variable {w wr w2:World} {kq kb g:Nat} {b:Blk} {H H' L L':List Blk} {vq vq' v v':Value}
theorem TkMem.below (M:TkMem w kq kb g b H vq L v wr) (h:Below wr.heap.size wr w2):TkMem w kq kb g b H vq L v w2 :=
 ⟨M.qs.below h,M.kb_.below h,M.kq_.below h,M.kr_.below h,M.ne⟩
theorem TkMem.app (M:TkMem w kq kb g b H vq L v wr) (k:AppB 57 wr w.heap.size v L' v' w2):TkMem w kq kb g b H vq L' v' w2:=by
 obtain ⟨q,hk⟩:=M.qs.app k
 exact ⟨q,M.kb_.keep (hk _ (by simp)),M.kq_.keep (hk _ (by simp)),M.kr_.keep (hk _ (by simp)),M.ne⟩
theorem TkMem.waits (M:TkMem w kq kb g b H vq L v wr) (k:Waits wr w.heap.size g vq H' vq' w2) (hh:HeapFrom H' H'.length 0):TkMem w kq kb g b H' vq' L v w2:=by
 obtain ⟨q,hk⟩:=M.qs.waits k hh
 exact ⟨q,M.kb_.keep (hk _ (by simp)),M.kq_.keep (hk _ (by simp)),M.kr_.keep (hk _ (by simp)),M.ne⟩
theorem TkMem.store1 (M:TkMem w kq kb g b H vq L v wr) (o:Int):TkMem w kq kb g (b.1,o) H vq L v (wr.setCell ⟨kb,1,none⟩ (.int .i64 o)):=by
 obtain ⟨q,hk⟩:=M.qs.store (r:=kb) (by simp) (grown_set wr kb 1 (.int .i64 o))
 exact ⟨q,M.kb_.set 1 (.int .i64 o),M.kq_.keep (hk _ (by simp) (fun e=>M.ne.1 e.symm)),M.kr_.keep (hk _ (by simp) (fun e=>M.ne.2.1 e.symm)),M.ne⟩
theorem TkMem.store0 (M:TkMem w kq kb g b H vq L v wr) (x:Int):TkMem w kq kb g (x,b.2) H vq L v (wr.setCell ⟨kb,0,none⟩ (.int .i64 x)):=by
 obtain ⟨q,hk⟩:=M.qs.store (r:=kb) (by simp) (grown_set wr kb 0 (.int .i64 x))
 exact ⟨q,M.kb_.set 0 (.int .i64 x),M.kq_.keep (hk _ (by simp) (fun e=>M.ne.1 e.symm)),M.kr_.keep (hk _ (by simp) (fun e=>M.ne.2.1 e.symm)),M.ne⟩
theorem TkMem.rise (M:TkMem w kq kb g b H vq L v wr) (k:wr.grownBy w2 v.ownBlock):Whole w2 kb 57 [.int .i64 b.1, .int .i64 b.2]∧Whole w2 w.heap.size 57 [.int .i64 0, .int .i64 0]∧Below w.heap.size w w2:=by
 have h1:=M.qs.boxes kb (by simp)
 have h2:=M.qs.boxes w.heap.size (by simp)
 exact ⟨M.kb_.keep (k.block _ h1.1 (fun e=>h1.2.2.2.2 e.symm)),M.kr_.keep (k.block _ h2.1 (fun e=>h2.2.2.2.2 e.symm)),M.qs.bel.grown k M.qs.small fun j hj=>(M.qs.row.lt j hj).1⟩
theorem TkMem.store (M:TkMem w kq kb g b H vq L v wr) (x o:Int):TkMem w kq kb g (x,o) H vq L v ((wr.setCell ⟨kb,0,none⟩ (.int .i64 x)).setCell ⟨kb,1,none⟩ (.int .i64 o)):=(M.store0 x).store1 o
end
theorem twin_half {r o:Int} {B:Blk} (hr:r≤8) (hB:May r B) (h0:0≤o) (ho:o < B.2):twin (B.1,o)=(B.1+sz o,o):=by
 have hc:IsHalf B o (B.1+sz o,o):=⟨Int.le_refl _,ho,rfl⟩
 obtain ⟨h1,_,_,h4,_⟩:=half_may hr h0 hB hc
 have:=twin_twin hr h1
 rw [h4] at this
 exact this
def Tk1Rel (w:World) (l:List Blk) (t:Int) (kq kb g:Nat) (gg:Nat) (v:Value) (wr:World):Prop :=
 ∃ b H vq L,H.length≤gg∧TkMem w kq kb g b H vq L v wr∧Tk1 l t b H L
def Tk2Rel (w:World) (l:List Blk) (t:Int) (B:Blk) (H:List Blk) (vq:Value) (kq kb g:Nat) (gg:Nat) (v:Value) (wr:World):Prop :=
 ∃ o M,t≤o∧o≤B.2∧(o - t).toNat≤gg∧TkMem w kq kb g (B.1,o) H vq M v wr∧Tk2 l B o H M∧(M.length:Int)+o≤300
set_option maxRecDepth 100000 in
set_option maxHeartbeats 8000000 in
theorem take_in (r:Int) (A:Option Addr) (n c:Nat) (l:List Blk) (t:Int) (w:World) (h:RdS w A n l) (hn:n≤1000) (hT:Tab w) (hm:mayTk r l t=true) (hr:roomB l t=true) :
  Calls Tryz.prog 85 #[.int .i64 r, .slice A n c, .int .i64 t] w (TakePost w r l t):=by
 have hB:=(Below.refl w.heap.size w).alloc (Nat.le_refl _) (.cells #[.int .i64 0, .int .i64 0] 57)
 have S:=mayTake_any r A n c l t _ (h.below hB) hn (hT.below hB)
 have S2:=fun W (b:Below w.heap.size w W)=>hasRoom_any A n c l t W (h.below b) hn
 have S3:=fun W (b:Below w.heap.size w W)=>wait_any A n c l W (h.below b) hn
 rw [hm] at S
 rw [hr] at S2
 have hm2:=hm
 unfold mayTk at hm2
 rw [Bool.and_eq_true,Bool.and_eq_true,decide_eq_true_iff,decide_eq_true_iff,decide_eq_true_iff] at hm2
 obtain ⟨hR,h0,h1⟩:=hm2
 have HK:=Lib.hid (Whole.new w #[.int .i64 0, .int .i64 0] 57)
 have HB:=Lib.hid hB
 have HM:=Lib.hid hm
 have HRm:=Lib.hid hr
 have HRt:=Lib.hid hR
 have hlen:=Lib.hid h.len
 have hz0:(w.alloc (.cells #[.int .i64 0, .int .i64 0] 57)).heap.size=w.heap.size+1:=by simp
 clear h hB hT hm hr hR
 go_enter Tryz.func85,Tryz.ntmps85
 go_upto_region 7 with (first | (go_at_call 124;refine S.mono ?_;rintro e w2 ⟨rfl,b2⟩;have B2:=HB.out.trans (b2.mono HB.out.size)) | (go_at_call 125;refine (S2 w2 B2).mono ?_;rintro e w3 ⟨rfl,b3⟩;have B3:=B2.trans (b3.mono B2.size)) | (go_at_call 126;refine (S3 w3 B3).mono ?_;rintro e w4 ⟨g,vq,H,he,qa,hp,hheap,b4⟩;unfold qv qcs mSize mLess mSwap mPush mPop at he;subst he))
 have hw3:w.heap.size+1≤w3.heap.size:=by rw [← hz0];exact Nat.le_trans b2.size b3.size
 have hg:=qa.lo
 have qs4:QS w w.heap.size w.heap.size [w.heap.size] g H vq [] (.slice none 0 0) w4:=⟨⟨qa.at_,qa.own.mono (by omega),by omega⟩,hheap,OwnB.nil,(fun e=>by cases e),(fun _ _ e=>by cases e),(fun s hs=>by
  rw [List.mem_singleton.1 hs]
  exact ⟨by have:=b4.size;omega,Nat.le_refl _,by omega,fun e=>by have:=(qa.own.lt _ e).1;omega,fun e=>by cases e⟩),B3.trans (b4.mono B3.size),Nat.le_refl _,by have:=b4.size;omega⟩
 have K4:=((HK.out.below b2).below b3).below (b4.mono (Nat.le_refl _))
 have hA:=(Below.refl w4.heap.size w4).alloc (Nat.le_refl _) (.cells (qcs g).toArray 201)
 have K5:Whole (w4.alloc (.cells (qcs g).toArray 201)) w4.heap.size 201 (qcs g):=Whole.new w4 (qcs g).toArray 201
 have qs5:=qs4.add hA (Nat.le_refl _) (by simp)
 have R5:=K4.below hA
 have hne5:w.heap.size < w4.heap.size:=by have:=b4.size;omega
 clear qs4 qa hA S S2 S3 K4
 obtain ⟨kq,hkq⟩ : ∃ k,k=w4.heap.size:=⟨_,rfl⟩
 unfold qcs mSize mLess mSwap mPush mPop at K5
 unfold qcs mSize mLess mSwap mPush mPop at qs5
 unfold qcs mSize mLess mSwap mPush mPop at R5
 rw [← hkq] at K5 qs5 hne5 ⊢
 clear hkq
 generalize w4.alloc (.cells _ 201)=w5 at K5 qs5 R5 ⊢
 have c0:=K5.cell 0
 have c1:=K5.cell 1
 have c2:=K5.cell 2
 have c3:=K5.cell 3
 have c4:=K5.cell 4
 have c5:=K5.cell 5
 have hHl:=hp.length_eq
 have hl256:=HRt.out.len256
 have hH0:H.length≠0:=fun e=>by
  have h2:=HRm.out
  rw [show l = [] from List.eq_nil_of_length_eq_zero (by omega)] at h2
  cases h2
 obtain ⟨m,hm⟩ : ∃ m,H.length=m+1:=⟨H.length - 1,by omega⟩
 have S5:=qnext_any w.heap.size g vq H m w5 qs5.q hm (by omega) hheap
 obtain ⟨⟨x,o⟩,hx⟩ : ∃ x,x=nth H 0:=⟨_,rfl⟩
 rw [← hx] at S5
 unfold qv qcs bval enc2 mSize mLess mSwap mPush mPop at S5
 simp only at S5
 clear hx
 go_upto_region 8 with (go_at_call 127;refine S5.mono ?_;rintro e w6 ⟨rfl,H2,vq2,hp2,hmin,hheap2,hwt2⟩)
 obtain ⟨qs6,hk6⟩:=qs5.waits hwt2 hheap2
 have Kq6:=K5.keep (hk6 _ (by simp))
 have Kr6:=R5.keep (hk6 _ (by simp))
 have hA6:=(Below.refl w6.heap.size w6).alloc (Nat.le_refl _) (.cells #[.int .i64 x, .int .i64 o] 57)
 have hkq6:=(qs6.boxes kq (by simp)).1
 have M7:TkMem w kq w6.heap.size g (x,o) H2 vq2 [] (.slice none 0 0) (w6.alloc (.cells #[.int .i64 x, .int .i64 o] 57)) :=
  ⟨qs6.add hA6 (Nat.le_refl _) (by simp),Whole.new w6 #[.int .i64 x, .int .i64 o] 57,Kq6.below hA6,Kr6.below hA6,by omega,by omega,by omega⟩
 have I7:Tk1 l t (x,o) H2 []:=⟨by rw [List.append_nil];exact hp2.trans hp,(fun c hc=>by cases hc),hmin⟩
 clear qs5 K5 R5 S5 hwt2 qs6 hk6 Kq6 Kr6 hA6 c0 c1 c2 c3 c4 c5
 obtain ⟨kb,hkb⟩ : ∃ k,k=w6.heap.size:=⟨_,rfl⟩
 rw [← hkb] at M7 ⊢
 clear hkb
 generalize w6.alloc (.cells #[.int .i64 x, .int .i64 o] 57)=w7 at M7 ⊢
 go_loopg [10] H2.length (fun gg v wr=>Tk1Rel w l t kq kb g gg v wr)
 case atStart=>exact ⟨(x,o),H2,vq2, [],Nat.le_refl _,M7,I7⟩
 case round =>
  clear M7 I7 hp2 hmin hheap2 hp hheap hm hH0 hHl hkq6 hne5
  obtain ⟨⟨x1,o1⟩,H1,vq1,L1,hg1,M,I⟩:=hrel
  obtain ⟨A2,ca,rfl,r2⟩:=M.qs.row.rd
  have hlens:=I.perm.length_eq
  simp only [List.length_append,List.length_cons] at hlens
  have hl1:L1.length≤300:=by omega
  have hl2:H1.length≤300:=by omega
  have hle:=Lib.hid hlens
  clear hlens
  have d0:=M.kb_.cell 0
  have d1:=M.kb_.cell 1
  have df:=M.kb_.free
  simp only at d0 d1
  by_cases hlt:o1 < t
  ·have kd:decide (o1 < t)=true:=decide_eq_true hlt
   have hmo:=I.more hlt HRm.out
   obtain ⟨v8,w8,hap,happ⟩:=run_appB_one (P:=Tryz.prog) w.heap.size 26 26 57 Tryz.underlying26 Tryz.infoBlk2 rfl _ _ M.qs.row (x1,o1) (by omega) M.qs.lo2
   have M8:=M.app happ
   simp only at hap
   obtain ⟨m1,hm1⟩ : ∃ m,H1.length=m+1:=⟨H1.length - 1,by omega⟩
   have S8:=qnext_any w.heap.size g vq1 H1 m1 w8 M8.qs.q hm1 (by omega) M8.qs.heap
   obtain ⟨⟨x2,o2⟩,hx2⟩ : ∃ x,x=nth H1 0:=⟨_,rfl⟩
   rw [← hx2] at S8
   unfold qv qcs bval enc2 mSize mLess mSwap mPush mPop at S8
   simp only at S8
   have Kq:=M8.kq_
   unfold qcs mSize mLess mSwap mPush mPop at Kq
   have c0:=Kq.cell 0
   have c1:=Kq.cell 1
   have c2:=Kq.cell 2
   have c3:=Kq.cell 3
   have c4:=Kq.cell 4
   have c5:=Kq.cell 5
   have HM8:=Lib.hid M8
   have HI:=Lib.hid I
   clear M M8 Kq I happ hx2 hmo
   go_wp2_with (first | (at_builtin;refine wpList_append_run hap rfl _ _ rfl rfl rfl rfl ?_) | (go_at_call 127;refine S8.mono ?_;rintro e w9 ⟨rfl,H2,vq2,hp2,hmin,hheap2,hwt2⟩;have M9:=Lib.hid (HM8.out.waits hwt2 hheap2);have e0:=M9.out.kb_.cell 0;have e1:=M9.out.kb_.cell 1;have ef:=M9.out.kb_.free))
   have hlp:=Lib.hid hp2.length_eq
   go_roundg H2.length
   case measure=>have:=hlp.out;simp at this;omega
   case rel=>exact ⟨(x2,o2),H2,vq2,_,Nat.le_refl _,M9.out.store x2 o2,HI.out.next hlt hp2 hmin⟩
  ·have kd:decide (o1 < t)=false:=decide_eq_false hlt
   obtain ⟨hBl,hBq⟩:=I.best
   have hMB:=HRt.out.may hBl
   have hI2:=Tk2.start HRt.out I
   simp only at hI2
   have hMB0:=hMB
   obtain ⟨q0,q1,_,_,_⟩:=hMB0
   simp only at q0 q1
   have hr8:=HRt.out.1.2
   go_upto_region 11 with fail
   go_loopg [10] (o1 - t).toNat (fun gg v wr=>Tk2Rel w l t (x1,o1) H1 vq1 kq kb g gg v wr)
   case atStart=>exact ⟨o1,L1,by omega,Int.le_refl _,Nat.le_refl _,M,hI2,by have:=hle.out;omega⟩
   case round =>
    clear M hI2 d0 d1 df r2 kd I
    obtain ⟨o3,M3,ho1,ho2,hg3,M,I,hml⟩:=hrel
    obtain ⟨A3,ca3,rfl,r3⟩:=M.qs.row.rd
    simp only at ho2
    have d0:=M.kb_.cell 0
    have d1:=M.kb_.cell 1
    have df:=M.kb_.free
    simp only at d0 d1
    have hl3:M3.length≤300:=by omega
    by_cases hlt3:t < o3
    ·have kd:decide (t < o3)=true:=decide_eq_true hlt3
     have hwo:IntKind.i64.wrap (o3 - 1)=o3 - 1:=by rw [IntKind.wrap_i64];omega
     have M8:=M.store1 (o3 - 1)
     go_upto_region 13 with (fail)
     simp only at M8
     generalize wr.setCell ⟨kb,1,none⟩ (.int .i64 (o3 - 1))=w8 at M8 ⊢
     have T:=fun W=>twin_any (x1,o3 - 1) W ⟨by simp only;omega,by simp only;omega⟩ (may_box hr8 hMB).2
     have hst:=Lib.hid (I.step HRt.out hBl (by omega) ho2)
     rw [twin_half hr8 hMB (by omega) (by simp only;omega)] at T
     simp only at hst
     obtain ⟨s,hs⟩ : ∃ s,s=sz (o3 - 1):=⟨_,rfl⟩
     simp only [← hs] at T hst
     clear hs
     unfold bval enc2 at T
     simp only at T
     have HM8:=Lib.hid M8
     clear d0 d1 df kd hwo M I r3
     have d0:=M8.kb_.cell 0
     have d1:=M8.kb_.cell 1
     simp only at d0 d1
     clear M8
     go_wp2_with (first | (go_at_call 128;refine (T _).mono ?_;rintro e w9 ⟨rfl,g9⟩;have M9:=HM8.out.below g9.below;obtain ⟨v10,w10,hap,happ⟩:=run_appB_one (P:=Tryz.prog) w.heap.size 26 26 57 Tryz.underlying26 Tryz.infoBlk2 rfl _ _ M9.qs.row (x1+s,o3 - 1) (by omega) M9.qs.lo2;simp only at hap;have M10:=Lib.hid (M9.app happ);clear M9 happ) | (at_builtin;refine wpList_append_run hap rfl _ _ rfl rfl rfl rfl ?_))
     go_roundg (o3 - 1 - t).toNat
     case measure=>omega
     case rel=>exact ⟨o3 - 1,_,by omega,by simp only;omega,Nat.le_refl _,M10.out,hst.out,by simp;omega⟩
    ·obtain rfl:o3=t:=by omega
     have kd:decide (o3 < o3)=false:=by simp
     obtain ⟨Aq,cq,hvq,rq⟩:=M.qs.q.own.rd
     have MD:=M.below (Below.refl _ _).drew
     obtain ⟨vA,wA,hap,happ⟩:=run_appB (P:=Tryz.prog) (w:=wr.drew) w.heap.size 26 26 57 Tryz.underlying26 Tryz.infoBlk2 rfl _ _ MD.qs.row Aq H1.length cq H1 (rq.below (Below.refl _ _).drew) (by omega) MD.qs.lo2
     have MA:=MD.app happ
     rw [← append_ts _ _ 205 _ 57 Tryz.underlying26 Tryz.underlying205] at hap
     have a0:=MA.kb_.cell 0
     have a1:=MA.kb_.cell 1
     have R:=rising_any w.heap.size vA (M3++H1) wA MA.qs.row (by simp;omega)
     have c0:=M.kq_.cell 0
     have cg:=M.qs.q.at_.cell 0
     rw [hvq] at cg
     simp only at a0 a1
     unfold qcs at c0
     have HMA:=Lib.hid MA
     have HI:=Lib.hid I
     clear MA MD happ I rq
     go_wp2_with fail
     go_region_law (first | (refine step_append_run hap rfl (.tmp 51) (.tmp 56) rfl rfl rfl rfl ?_) | (rw [if_pos (by simp [Region.wanted])];unfold Oper.wp;go_simp;refine R.mono ?_;rintro e wB ⟨m',rfl,hpm,hsm,hom,gb⟩;have KB:=HMA.out.rise gb;have e0:=KB.1.cell 0;have e1:=KB.1.cell 1;have z0:=KB.2.1.cell 0;have z1:=KB.2.1.cell 1;have zf:=KB.2.1.free;dsimp only))
     all_goals
      obtain ⟨KB1,KR,BB⟩:=HMA.out.rise gb
      have K2:=(KR.set 0 (.int .i64 x1)).set 1 (.int .i64 o3)
      have G2:=grown_trans (grown_set wB w.heap.size 0 (.int .i64 x1)) (grown_set _ w.heap.size 1 (.int .i64 o3))
      have HT2:=Lib.hid (show TakePost w r l o3 (.returned (.tuple #[bval (x1,o3),vA, .int .i64 0])) ((wB.setCell ⟨w.heap.size,0,none⟩ (.int .i64 x1)).setCell ⟨w.heap.size,1,none⟩ (.int .i64 o3)) from
       ⟨(x1,o3),m',0,vA,rfl, .inr (.inr ⟨HM.out,HRm.out,rfl,HI.out.done hBl ho2 hBq hpm hsm⟩),hom.grown G2 (fun k hk=>by have:=(HMA.out.qs.boxes w.heap.size (by simp)).2.2.2.2;intro e;injection e with e;exact this (e ▸ hk)),below_grown BB G2 BB.size (Nat.le_refl _)⟩)
      clear e0 e1 z0 z1 zf a0 a1 c0 cg hap R KB gb hom hpm hsm
      go_wp2
      exact bodyPost_ret (results_box3 (b:=(x1,o3)) (p:=6) (q:=7) (u:=8) rfl _ _ w.heap.size rfl (K2.cell 0) (K2.cell 1)) rfl HT2.out
theorem take_any (r:Int) (A:Option Addr) (n c:Nat) (l:List Blk) (t:Int) (w:World) (h:RdS w A n l) (hn:n≤1000) (hT:Tab w) :
  Calls Tryz.prog 85 #[.int .i64 r, .slice A n c, .int .i64 t] w (TakePost w r l t):=by
 cases hm:mayTk r l t with
 | false=>exact take_refused r A n c l t w h hn hT hm
 | true =>
  cases hr:roomB l t with
  | false=>exact take_full r A n c l t w h hn hT hm hr
  | true=>exact take_in r A n c l t w h hn hT hm hr
end Go.Proofs.YtcodpnbemdflcaaGreatDoor

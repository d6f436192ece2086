/-
  The checks of a heap whose row of free blocks may be long: it is refused.
  A reader reads a heap.
-/
import Derived.Test.YtcodpnbemdflcaaGreatDoorTg20
import Derived.Test.YtcodpnbemdflcaaGreatDoorTg29
import Derived.Test.YtcodpnbemdflcaaGreatDoorTg21
namespace Go.Proofs.YtcodpnbemdflcaaGreatDoor
open Go.RowKit
def LongH (H:Hp):Prop:=H.obs.length≤600∧H.fr.length≤4398046511104 ∧ ∀ x ∈ H.obs,x.ws.length≤5000∧x.ls.length≤5000
set_option maxRecDepth 100000 in
set_option maxHeartbeats 4000000 in
theorem freeWordsL_in (r:Int) (A:Option Addr) (n c:Nat) (l:List Blk) (w:World) (hr:3≤r∧r≤8) (h:RdS w A n l) (hn:n≤4398046511104) (hT:Tab w) :
  Calls Tryz.prog 120 #[.int .i64 r, .slice A n c] w fun e w'=>(Right r l∧MapOf w r l e w')∨(¬ Right r l∧NoWords w e w'):=by
 have hlen:=h.len
 have S1:=fun W=>words_any r W
 rw [wordsI_in (by omega) hr.2] at S1
 have hs0:=sz_pos r
 have hs1:=sz_le256 (o:=r) (by omega) hr.2
 obtain ⟨k0,hk0⟩:=Int.eq_ofNat_of_zero_le (Int.le_of_lt hs0)
 have hmp:=mapped_nil r
 rw [hk0,Int.toNat_natCast] at hmp
 rw [hk0] at S1
 have S2:=new_yes k0 w (by omega)
 have S3:=fun W=>isRegion_any r W
 rw [decide_eq_true hr] at S3
 have HR:=Lib.hid h
 have HT:=Lib.hid hT
 clear h hT
 go_enter Tryz.func120,Tryz.ntmps120
 go_wp2_with (first | (go_at_call 16;refine (S1 _).mono ?_;rintro e w1 ⟨rfl,rfl⟩) | (go_at_call 163;refine S2.mono ?_;rintro e w1 ⟨g,h,rfl,m1,hg,hh,b1⟩) | (go_at_call 31;refine (S3 _).mono ?_;rintro e w2 ⟨rfl,rfl⟩))
 clear S1 S2 S3
 go_loopw [25] (FwRel w r l g h) (fun i _=>n - (intOf i).toNat)
 case atStart=>exact ⟨0,_,rfl,Nat.zero_le _,right_nil hr,hmp,m1,b1⟩
 case round =>
  clear m1 b1 hmp hk0 hs0 hs1
  obtain ⟨k,m,rfl,hk,hR,hM,mA,bw⟩:=hrel
  by_cases hlt:k < n
  ·obtain ⟨b,off,x,rfl,hbl,hx,hc0,hc1⟩:=HR.out.cell hlt
   have c0:=(bw.cell (p:=⟨b,off+k*2,none⟩) hbl).trans hc0
   have c1:=(bw.cell (p:=⟨b,off+k*2+1,none⟩) hbl).trans hc1
   have hsn:=right_snoc (b:=x) hR
   rw [← take_snocB hx] at hsn
   have hno : ¬ Comes r (l.take k) x → ¬ Right r l:=fun hq hRl=>hq (hsn.1 (right_prefix hRl _))
   have g1:=(Grew.refl wr).alloc (.cells #[.int .i64 x.1, .int .i64 x.2] 57)
   have B1:=Box2.new wr x 57
   have M1:=fun W=>mayBe_any r x W (by omega)
   have M2:=fun (W:World) (G:Grew (wr.alloc (.cells #[.int .i64 x.1, .int .i64 x.2] 57)) W)=>allTaken_any g h m x W (mA.below (g1.trans G).below) (HT.out.below (bw.trans ((g1.trans G).below.mono bw.size)))
   have hTr:=bw.size
   by_cases hm:May r x
   ·rw [decide_eq_true hm] at M1
    have htk:=hM.taken hR.2.1 hr.2 hm
    cases ht:allTkn m x with
    | false =>
     have hn1:=Lib.hid (hno (fun q=>by have:=htk.2 q.2.1;rw [ht] at this;cases this))
     rw [ht] at M2
     obtain ⟨x0,x1⟩:=x
     unfold bval enc2 at M1 M2
     simp only at *
     clear hsn hno htk
     go_wp2_with (first | (go_at_call 132;refine (M1 _).mono ?_;rintro e w2 ⟨rfl,G2⟩;have e0:=(B1.below G2.below).c0;have e1:=(B1.below G2.below).c1) | (go_at_call 133;refine (M2 _ G2).mono ?_;rintro e w3 ⟨rfl,G3⟩))
     go_ret2
     exact .inr ⟨hn1.out,rfl,bw.trans (((g1.trans G2).trans G3).below.mono bw.size)⟩
    | true =>
     have hdis:=htk.1 ht
     rw [ht] at M2
     have mixed:Tryz.prog.follows .mixedOrders=true:=by kernel_rfl
     obtain ⟨p1,p2,p3⟩:=hM.put hm
     have P:=fun (W:World) (G:Grew (wr.alloc (.cells #[.int .i64 x.1, .int .i64 x.2] 57)) W)=>put_any g h m x.1 (sz x.2) true W (mA.below (g1.trans G).below) (by have:=hm.2.2.2.1;have:=sz_pos x.2;have:=sz_le256 (o:=r) (by omega) hr.2;omega)
     rw [p2] at P
     have W1:=fun W=>words_any x.2 W
     rw [wordsI_in hm.1 (by have:=hm.2.1;omega)] at W1
     have Hp:=Lib.hid p3
     have Hs:=Lib.hid hsn
     have Hno:=Lib.hid hno
     have Hd:=Lib.hid hdis
     have HM:=Lib.hid hm
     have Hx:=Lib.hid hx
     clear p1 p2 p3 hsn hno htk hdis hm hM
     obtain ⟨x0,x1⟩:=x
     unfold bval enc2 at M1 M2
     simp only at *
     go_wp2_with (first | (go_at_call 132;refine (M1 _).mono ?_;rintro e w2 ⟨rfl,G2⟩;have e0:=(B1.below G2.below).c0;have e1:=(B1.below G2.below).c1) | (go_at_call 133;refine (M2 _ G2).mono ?_;rintro e w3 ⟨rfl,G3⟩))
     have d0:Box2 w3 wr.heap.size (x0,x1):=(B1.below G2.below).below G3.below
     have GG:=g1.trans (G2.trans G3)
     have GH:=G2.trans G3
     have bw3:=bw.trans (GG.below.mono bw.size)
     clear M1 M2 c0 c1 e0 e1 B1
     by_cases hk0:k=0
     ·have hd:decide (0 < (k:Int))=false:=by simp;omega
      refine wp_region_quiet_grown mixed (by kernel_rfl) ?_
      repeat (go_big_quiet_step (fail))
      refine wpQuiet_nil ?_
      intro _ hw'
      obtain ⟨⟨nq,osq⟩,hw''⟩:=hw'
      subst hw''
      have G4:=(Grew.refl w3).grow nq osq
      generalize Go.Sort.grow (w3.drewN nq) osq=w4 at G4 ⊢
      have d4:=d0.below G4.below
      have e0:=d4.c0
      have e1:=d4.c1
      clear d0 d4 hd
      have hfol : ∀ a,(l.take k).getLast? = some a→mayFol a (x0,x1)=true:=fun a ha=>by rw [hk0] at ha;simp at ha
      go_wp2_with fail
      go_region_with (first | (go_at_call 16;refine (W1 _).mono ?_;rintro e w5 ⟨rfl,rfl⟩) | (go_at_call 165;refine (P _ (GH.trans G4).drew).mono ?_;rintro e w6 ⟨rfl,m6,g6⟩))
      all_goals
       go_wp2
       go_roundw
       case rel=>exact ⟨k+1,_,by go_num,by omega,Hs.out.2 ⟨HM.out,Hd.out,hfol⟩,by rw [take_snocB Hx.out];exact Hp.out,m6,below_grown (bw3.trans (G4.drew.below.mono bw3.size)) g6 (Nat.le_trans bw3.size G4.drew.below.size) hh⟩
       case measure=>simp [intOf];omega
     ·have hd:decide (0 < k)=true:=by simp;omega
      obtain ⟨q,hq⟩ : ∃ q,q=k - 1:=⟨_,rfl⟩
      have hkq:=Lib.hid (show k=q+1 by omega)
      have hq0:IntKind.i64.wrap ((k:Int) - 1)=(q:Int):=by rw [IntKind.wrap_i64];omega
      have hqn:q < n:=by omega
      have hqi:(q:Int) < (n:Int):=by omega
      obtain ⟨b',off',y,hbo,_,hy,y0,y1⟩:=HR.out.cell hqn
      injection hbo with hbo
      injection hbo with hb1 hb2
      subst hb1
      subst hb2
      have hyt:y ∈ l.take k:=by rw [hkq.out];exact List.mem_of_getElem? (i:=q) (by rw [List.getElem?_take,if_pos (by omega)];exact hy)
      have hMy:=hR.may hyt
      have hlast:(l.take k).getLast? = some y:=by rw [hkq.out];exact last_take hy
      have hsy:=sz_pos y.2
      have hsr:=sz_le256 (o:=r) (by omega) hr.2
      have F1:=fun W=>mayFollow_any y (x0,x1) W ⟨hMy.1,by have:=hMy.2.1;omega⟩ ⟨hMy.2.2.1,by have:=hMy.2.2.2.1;omega⟩
      have z0:=cell_grown (a:=⟨b,off+q*2,none⟩) (Nat.lt_of_lt_of_le hbl bw3.size) ((bw3.cell (p:=⟨b,off+q*2,none⟩) hbl).trans y0)
      have z1:=cell_grown (a:=⟨b,off+q*2+1,none⟩) (Nat.lt_of_lt_of_le hbl bw3.size) ((bw3.cell (p:=⟨b,off+q*2+1,none⟩) hbl).trans y1)
      have v0:=d0.g0
      have v1:=d0.g1
      simp only at v0 v1
      have hall:=Lib.hid (fun hf:mayFol y (x0,x1)=true=>show ∀ a,(l.take k).getLast? = some a→mayFol a (x0,x1)=true from fun a ha=>by rw [hlast] at ha;injection ha with ha;rw [← ha];exact hf)
      have hbad:=Lib.hid (fun hf:mayFol y (x0,x1)=false=>Hno.out fun qq=>by have:=qq.2.2 y hlast;rw [hf] at this;cases this)
      clear hq hyt hMy hlast hsy hsr y0 y1 hy hx hc0 hc1 hR
      obtain ⟨ya,yo⟩:=y
      unfold bval enc2 at F1
      simp only at *
      cases hf:mayFol (ya,yo) (x0,x1) with
      | false =>
       rw [hf] at F1
       have hb2:=Lib.hid (hbad.out hf)
       clear hall hbad hf
       refine wp_region_quiet_grown mixed (by kernel_rfl) ?_
       repeat (go_big_quiet_step ((go_at_call 164;exact calls_grown_says (F1 _))))
       refine wpQuiet_nil ?_
       intro _ hw'
       obtain ⟨⟨nq,osq⟩,hw''⟩:=hw'
       subst hw''
       have G4:=(Grew.refl w3).grow nq osq
       generalize Go.Sort.grow (w3.drewN nq) osq=w4 at G4 ⊢
       have d4:=d0.below G4.below
       have e0:=d4.c0
       have e1:=d4.c1
       clear d0 d4 hd z0 z1 v0 v1 F1 hq0
       go_wp2
       go_ret2
       exact .inr ⟨hb2.out,rfl,bw3.trans (G4.below.mono bw3.size)⟩
      | true =>
       rw [hf] at F1
       have hfol:=Lib.hid (hall.out hf)
       clear hall hbad hf
       refine wp_region_quiet_grown mixed (by kernel_rfl) ?_
       repeat (go_big_quiet_step ((go_at_call 164;exact calls_grown_says (F1 _))))
       refine wpQuiet_nil ?_
       intro _ hw'
       obtain ⟨⟨nq,osq⟩,hw''⟩:=hw'
       subst hw''
       have G4:=(Grew.refl w3).grow nq osq
       generalize Go.Sort.grow (w3.drewN nq) osq=w4 at G4 ⊢
       have d4:=d0.below G4.below
       have e0:=d4.c0
       have e1:=d4.c1
       clear d0 d4 hd z0 z1 v0 v1 F1 hq0
       go_wp2_with fail
       go_region_with (first | (go_at_call 16;refine (W1 _).mono ?_;rintro e w5 ⟨rfl,rfl⟩) | (go_at_call 165;refine (P _ (GH.trans G4).drew).mono ?_;rintro e w6 ⟨rfl,m6,g6⟩))
       all_goals
        go_wp2
        go_roundw
        case rel=>exact ⟨k+1,_,by go_num,by omega,Hs.out.2 ⟨HM.out,Hd.out,hfol.out⟩,by rw [take_snocB Hx.out];exact Hp.out,m6,below_grown (bw3.trans (G4.drew.below.mono bw3.size)) g6 (Nat.le_trans bw3.size G4.drew.below.size) hh⟩
        case measure=>simp [intOf];omega
   ·rw [decide_eq_false hm] at M1
    have hn1:=Lib.hid (hno (fun q=>hm q.1))
    obtain ⟨x0,x1⟩:=x
    unfold bval enc2 at M1 M2
    simp only at *
    clear hsn hno
    go_wp2_with (first | (go_at_call 132;refine (M1 _).mono ?_;rintro e w2 ⟨rfl,G2⟩;have e0:=(B1.below G2.below).c0;have e1:=(B1.below G2.below).c1) | (go_at_call 133;refine (M2 _ G2).mono ?_;rintro e w3 ⟨rfl,G3⟩))
    go_ret2
    exact .inr ⟨hn1.out,rfl,bw.trans ((g1.trans G2).below.mono bw.size)⟩
  ·obtain rfl:k=n:=by omega
   have hRl:Right r l:=by rw [List.take_of_length_le (by omega)] at hR;exact hR
   have hMl:Mapped r l m:=by rw [List.take_of_length_le (by omega)] at hM;exact hM
   go_wp2
   go_ret2
   exact .inl ⟨hRl,g,h,m,rfl,mA,hMl,hg,hh,bw⟩
theorem freeWordsL_any (r:Int) (A:Option Addr) (n c:Nat) (l:List Blk) (w:World) (h:RdS w A n l) (hn:n≤4398046511104) (hT:Tab w) :
  Calls Tryz.prog 120 #[.int .i64 r, .slice A n c] w fun e w'=>(Right r l∧MapOf w r l e w')∨(¬ Right r l∧NoWords w e w'):=by
 by_cases hr:3≤r∧r≤8
 ·exact freeWordsL_in r A n c l w hr h hn hT
 ·exact (freeWords_out r A n c w hr).mono fun e w' h => .inr ⟨fun q=>hr q.1,h⟩
set_option maxHeartbeats 1000000 in
theorem checkL_any (r:Int) (A:Option Addr) (n c:Nat) (l:List Blk) (w:World) (h:RdS w A n l) (hn:n≤4398046511104) (hT:Tab w) :
  Calls Tryz.prog 76 #[.int .i64 r, .slice A n c] w (Tells w (.int .i64 (chkE r l))):=by
 have S:=freeWordsL_any r A n c l w h hn hT
 by_cases hR:Right r l
 ·rw [chkE_yes hR]
  have S2:Calls Tryz.prog 120 #[.int .i64 r, .slice A n c] w (MapOf w r l):=S.mono fun e w' h=>h.elim (fun h=>h.2) (fun h=>absurd hR h.1)
  clear S h
  go_enter Tryz.func76,Tryz.ntmps76
  go_wp2_with (go_at_call 120;refine S2.mono ?_;rintro e w1 ⟨g,h,m,rfl,_,_,_,_,b1⟩)
  go_ret
  exact ⟨rfl,b1⟩
 ·rw [chkE_no hR]
  have S2:Calls Tryz.prog 120 #[.int .i64 r, .slice A n c] w (NoWords w):=S.mono fun e w' h=>h.elim (fun h=>absurd h.1 hR) (fun h=>h.2)
  clear S h
  go_enter Tryz.func76,Tryz.ntmps76
  go_wp2_with (go_at_call 120;refine S2.mono ?_;rintro e w1 ⟨rfl,b1⟩)
  go_ret
  exact ⟨rfl,b1⟩
set_option maxRecDepth 100000 in
set_option maxHeartbeats 2000000 in
theorem objectsRightL_any (s:HSl) (H:Hp) (w:World) (h:RdH w s H) (hS:LongH H) :
  Calls Tryz.prog 38 #[hval H s] w (Says w (.bool (decide (ObsR H)))):=by
 have g1:=(Grew.refl w).alloc (.cells (hcs H s).toArray 28)
 have K1:=Lib.hid (Whole.new w (hcs H s).toArray 28)
 have HO:=Lib.hid (h.obs.below g1.below)
 have hlen:=Lib.hid h.obs.len
 have hS1:=hS.1
 obtain ⟨A,n,c,F,m,d⟩:=s
 obtain ⟨v,hv⟩ : ∃ v,v=decide (ObsR H):=⟨_,rfl⟩
 rw [← hv]
 have HV:=Lib.hid hv
 clear h hv hS
 have hn600:n≤600:=by have:=hlen.out;simp only at this;omega
 clear hS1
 simp only [hval,hcs] at *
 have c1:=K1.out.cell 1
 have c2:=K1.out.cell 2
 simp only [List.getElem?_cons_succ,List.getElem?_cons_zero] at c1 c2
 by_cases q1:H.nx < 1
 ·have d1:decide (H.nx < 1)=true:=decide_eq_true q1
  have Hd:=Lib.hid (show v=false from HV.out.trans (decide_eq_false fun r=>by have:=r.1;omega))
  go_enter Tryz.func38,Tryz.ntmps38
  go_wp2_with fail
  go_ret
  exact ⟨by rw [Hd.out];rfl,g1⟩
 have d1:decide (H.nx < 1)=false:=decide_eq_false q1
 by_cases q2:1000001 < H.nx
 ·have d2:decide (1000001 < H.nx)=true:=decide_eq_true q2
  have Hd:=Lib.hid (show v=false from HV.out.trans (decide_eq_false fun r=>by have:=r.1;omega))
  go_enter Tryz.func38,Tryz.ntmps38
  go_wp2_with fail
  go_ret
  exact ⟨by rw [Hd.out];rfl,g1⟩
 have d2:decide (1000001 < H.nx)=false:=decide_eq_false q2
 have Hnx:=Lib.hid (show 1≤H.nx∧H.nx≤1000001 by omega)
 go_enter Tryz.func38,Tryz.ntmps38
 go_upto_region 5 with (fail)
 clear c1 c2 d1 d2
 have hG:=Lib.hid g1
 generalize hW:w.alloc (.cells _ 28)=W at K1 HO hG ⊢
 have HW:=Lib.hid hW
 clear hW g1
 go_loopw [3,17] (ObsRel W H) (fun _ i _=>n - (intOf i).toNat)
 case atStart=>exact ⟨0,0,Nat.zero_le _,rfl,rfl,ObsUp.start H,Grew.refl _⟩
 case round =>
  obtain ⟨k,z,hk,rfl,rfl,hup,gr⟩:=hrel
  have Hup:=Lib.hid hup
  have KW:=K1.out.below gr.below
  have hkn:k≤n:=by have:=hlen.out;omega
  clear hup hk
  by_cases hlt:k < n
  ·obtain ⟨b',off,x,rfl,hbl,hx,A1,n1,f1,B1,m1,d1,h0,h1,h2,h3,h4,r5,r6⟩:=HO.out.get hlt
   have z0:=(gr.below.cell (p:=⟨b',off+k*5,none⟩) hbl).trans h0
   have z1:=(gr.below.cell (p:=⟨b',off+k*5+1,none⟩) hbl).trans h1
   have z2:=(gr.below.cell (p:=⟨b',off+k*5+2,none⟩) hbl).trans h2
   have z3:=(gr.below.cell (p:=⟨b',off+k*5+3,none⟩) hbl).trans h3
   have z4:=(gr.below.cell (p:=⟨b',off+k*5+4,none⟩) hbl).trans h4
   have hki:(k:Int) < (n:Int):=by omega
   have S:=fun W=>blockFits_any x A1 B1 n1 f1 m1 d1 W r5.len r6.len
   have Hx:=Lib.hid hx
   clear h0 h1 h2 h3 h4 r5 r6 hx
   go_upto_region 7 with (fail)
   have g3:=(Grew.refl wr).alloc (.cells #[.int .i64 x.hd, .int .i64 x.bl.1, .int .i64 x.bl.2, .slice A1 n1 f1, .slice B1 m1 d1] 60)
   have Kx:=Whole.new wr #[.int .i64 x.hd, .int .i64 x.bl.1, .int .i64 x.bl.2, .slice A1 n1 f1, .slice B1 m1 d1] 60
   obtain ⟨kx,hkx⟩ : ∃ kx,kx=wr.heap.size:=⟨_,rfl⟩
   rw [← hkx] at Kx ⊢
   clear hkx z0 z1 z2 z3 z4
   generalize wr.alloc (.cells _ 60)=w3 at g3 Kx ⊢
   have KH:=KW.below g3.below
   have G3:=Lib.hid (gr.trans g3)
   have y0:=Kx.cell 0
   have y1:=Kx.cell 1
   have y2:=Kx.cell 2
   have y3:=Kx.cell 3
   have y4:=Kx.cell 4
   have u2:=KH.cell 2
   simp only [List.getElem?_cons_succ,List.getElem?_cons_zero] at y0 y1 y2 y3 y4 u2
   have KX:=Lib.hid Kx
   clear KW KH gr g3 Kx
   by_cases a1:x.hd≤z
   ·have d1:decide (x.hd≤z)=true:=decide_eq_true a1
    have Hd:=Lib.hid (show v=false from HV.out.trans (decide_eq_false (Hup.out.low Hx.out a1)))
    go_wp2_with fail
    go_ret
    exact ⟨by rw [Hd.out];rfl,hG.out.trans G3.out⟩
   have d1:decide (x.hd≤z)=false:=decide_eq_false a1
   by_cases a2:H.nx≤x.hd
   ·have d2:decide (H.nx≤x.hd)=true:=decide_eq_true a2
    have Hd:=Lib.hid (show v=false from HV.out.trans (decide_eq_false fun r=>by have:=(r.2.2 x (List.mem_of_getElem? Hx.out)).2.1;omega))
    go_wp2_with fail
    go_ret
    exact ⟨by rw [Hd.out];rfl,hG.out.trans G3.out⟩
   have d2:decide (H.nx≤x.hd)=false:=decide_eq_false a2
   have Ha:=Lib.hid (show z < x.hd∧x.hd < H.nx by omega)
   by_cases a3:Shp x
   ·rw [decide_eq_true a3] at S
    have Hs:=Lib.hid (Hup.out.step Hx.out Ha.out.1 Ha.out.2 a3)
    clear a3
    go_wp2_with (go_at_call 75;refine (S _).mono ?_;rintro e w4 ⟨rfl,g4⟩;have e0:=(KX.out.below g4.below).cell 0;simp only [List.getElem?_cons_zero] at e0)
    go_roundw
    case rel=>exact ⟨k+1,x.hd,by have:=hlen.out;omega,by go_num,rfl,Hs.out,G3.out.trans g4⟩
    case measure=>simp [intOf];omega
   ·rw [decide_eq_false a3] at S
    have Hd:=Lib.hid (show v=false from HV.out.trans (decide_eq_false fun r=>a3 (r.2.2 x (List.mem_of_getElem? Hx.out)).2.2))
    clear a3
    go_wp2_with (go_at_call 75;refine (S _).mono ?_;rintro e w4 ⟨rfl,g4⟩)
    go_ret
    exact ⟨by rw [Hd.out];rfl,hG.out.trans (G3.out.trans g4)⟩
  ·obtain rfl:k=n:=by omega
   have Hd:=Lib.hid (show v=true from HV.out.trans (decide_eq_true (Hup.out.done (by have:=hlen.out;omega) Hnx.out)))
   go_wp2_with fail
   go_ret
   exact ⟨by rw [Hd.out];rfl,hG.out.trans gr⟩
set_option maxHeartbeats 1000000 in
theorem freeRightL_any (s:HSl) (H:Hp) (w:World) (h:RdH w s H) (hS:LongH H) (hT:Tab w) :
  Calls Tryz.prog 39 #[hval H s] w (Tells w (.bool (decide (Right H.od H.fr)))):=by
 have g1:=(Grew.refl w).alloc (.cells (hcs H s).toArray 28)
 have K1:=Lib.hid (Whole.new w (hcs H s).toArray 28)
 have S:=checkL_any H.od s.F s.m s.d H.fr _ (h.fr.below g1.below) (by have:=h.fr.len;have:=hS.2.1;omega) (hT.below g1.below)
 obtain ⟨A,n,c,F,m,d⟩:=s
 clear h hS hT
 simp only [hval,hcs] at *
 have c0:=K1.out.cell 0
 have c7:=K1.out.cell 7
 simp only [List.getElem?_cons_succ,List.getElem?_cons_zero] at c0 c7
 have hsz:=g1.below.size
 by_cases hR:Right H.od H.fr
 ·rw [chkE_yes hR] at S
  rw [decide_eq_true hR]
  have Hb:=Lib.hid g1.below
  clear hR g1
  go_enter Tryz.func39,Tryz.ntmps39
  go_wp2_with (go_at_call 76;refine S.mono ?_;rintro e w1 ⟨rfl,b1⟩)
  go_ret
  exact ⟨rfl,Hb.out.trans (b1.mono hsz)⟩
 ·rw [chkE_no hR] at S
  rw [decide_eq_false hR]
  have Hb:=Lib.hid g1.below
  clear hR g1
  go_enter Tryz.func39,Tryz.ntmps39
  go_wp2_with (go_at_call 76;refine S.mono ?_;rintro e w1 ⟨rfl,b1⟩)
  go_ret
  exact ⟨rfl,Hb.out.trans (b1.mono hsz)⟩
set_option maxHeartbeats 2000000 in
theorem check_heapL (s:HSl) (H:Hp) (w:World) (h:RdH w s H) (hS:LongH H) (hnr : ¬ Right H.od H.fr) (hT:Tab w) :
  Calls Tryz.prog 21 #[hval H s] w (Tells w (.int .i64 (chkH H))):=by
 have g1:=(Grew.refl w).alloc (.cells (hcs H s).toArray 28)
 have K1:=Whole.new w (hcs H s).toArray 28
 have h1:=h.below g1.below
 have hT1:=hT.below g1.below
 have S1:=objectsRightL_any s H _ h1 hS
 have S2:=Lib.hid fun (W:World) (b:Below (w.alloc (.cells (hcs H s).toArray 28)).heap.size (w.alloc (.cells (hcs H s).toArray 28)) W)=>freeRightL_any s H W (h1.below b) hS (hT1.below b)
 have KH:=Lib.hid K1
 have hb:=Lib.hid g1.below
 obtain ⟨v,hv⟩ : ∃ v,v=chkH H:=⟨_,rfl⟩
 rw [← hv]
 have HV:=Lib.hid hv
 obtain ⟨A,n,c,F,m,d⟩:=s
 clear h hS hT h1 hT1 K1 g1 hv
 simp only [hval,hcs] at *
 generalize hW:w.alloc (.cells _ 28)=W at S1 S2 KH hb
 have c0:=KH.out.cell 0
 have c1:=KH.out.cell 1
 have c2:=KH.out.cell 2
 have c3:=KH.out.cell 3
 have c4:=KH.out.cell 4
 have c5:=KH.out.cell 5
 have c6:=KH.out.cell 6
 have c7:=KH.out.cell 7
 simp only [List.getElem?_cons_succ,List.getElem?_cons_zero] at c0 c1 c2 c3 c4 c5 c6 c7
 by_cases ho:ObsR H
 case neg =>
  rw [decide_eq_false ho] at S1
  have Hd:=Lib.hid (show v=1 from HV.out.trans (chkH_no fun r=>ho (rightH_obs r)))
  clear ho
  go_enter Tryz.func21,Tryz.ntmps21
  go_upto_region 1 with (fail)
  try rw [hW]
  clear hW
  go_wp2_with (go_at_call 38;refine S1.mono ?_;rintro e w1 ⟨rfl,b1⟩)
  go_ret
  exact ⟨by rw [Hd.out];rfl,hb.out.trans (b1.below.mono hb.out.size)⟩
 rw [decide_eq_true ho] at S1
 have Ho:=Lib.hid ho
 clear ho
 by_cases hf:Right H.od H.fr
 case neg =>
  rw [decide_eq_false hf] at S2
  have Hd:=Lib.hid (show v=1 from HV.out.trans (chkH_no fun r=>hf r.fr))
  clear hf
  go_enter Tryz.func21,Tryz.ntmps21
  go_upto_region 1 with (fail)
  try rw [hW]
  clear hW
  go_wp2_with (first | (go_at_call 38;refine S1.mono ?_;rintro e w1 ⟨rfl,b1⟩;have e0:=((b1.below).cell (p:=⟨w.heap.size,0,none⟩) KH.out.lt).trans c0;have e1:=((b1.below).cell (p:=⟨w.heap.size,1,none⟩) KH.out.lt).trans c1;have e2:=((b1.below).cell (p:=⟨w.heap.size,2,none⟩) KH.out.lt).trans c2;have e3:=((b1.below).cell (p:=⟨w.heap.size,3,none⟩) KH.out.lt).trans c3;have e4:=((b1.below).cell (p:=⟨w.heap.size,4,none⟩) KH.out.lt).trans c4;have e5:=((b1.below).cell (p:=⟨w.heap.size,5,none⟩) KH.out.lt).trans c5;have e6:=((b1.below).cell (p:=⟨w.heap.size,6,none⟩) KH.out.lt).trans c6;have e7:=((b1.below).cell (p:=⟨w.heap.size,7,none⟩) KH.out.lt).trans c7) | (go_at_call 39;refine (S2.out _ b1.below).mono ?_;rintro e w2 ⟨rfl,b2⟩))
  go_ret
  exact ⟨by rw [Hd.out];rfl,hb.out.trans ((b1.below.trans (b2.mono b1.below.size)).mono hb.out.size)⟩
 exact absurd hf hnr
end Go.Proofs.YtcodpnbemdflcaaGreatDoor
namespace Go.Proofs.YtcodpnbemdflcaaGreatDoor
open Go.RowKit
theorem OwnHp.grownI {w w':World} {base r:Nat} {s:HSl} {os:List (Ob × OSl)} {H:Hp} (h:OwnHp w base s os H) (hg:w.grownBy w' (some r)) (hr:r < base):OwnHp w' base s os H :=
 ⟨h.objs.grown hg (fun k hk e=>by have:=(h.objs.row_lt k hk).1;injection e with e;omega) (fun k hk e=>by have:=(h.objs.lt k hk).1;injection e with e;omega),h.obs,h.free.grown hg (fun k hk e=>by have:=(h.free.lt k hk).1;injection e with e;omega),h.tp,h.nx⟩
def sets8 (W:World) (k:Nat) (H:Hp) (s:HSl):World :=
 (((((((W.setCell ⟨k,0,none⟩ (.int .i64 H.od)).setCell ⟨k,1,none⟩ (.slice s.A s.n s.c)).setCell ⟨k,2,none⟩ (.int .i64 H.nx)).setCell ⟨k,3,none⟩ (.int .i64 (tget H 0))).setCell ⟨k,4,none⟩ (.int .i64 (tget H 1))).setCell ⟨k,5,none⟩ (.int .i64 (tget H 2))).setCell ⟨k,6,none⟩ (.int .i64 (tget H 3))).setCell ⟨k,7,none⟩ (.slice s.F s.m s.d)
theorem sets8_grown (W:World) (k:Nat) (H:Hp) (s:HSl):W.grownBy (sets8 W k H s) (some k):=by
 unfold sets8
 exact grown_trans (grown_trans (grown_trans (grown_trans (grown_trans (grown_trans (grown_trans (grown_set _ _ _ _) (grown_set _ _ _ _)) (grown_set _ _ _ _)) (grown_set _ _ _ _)) (grown_set _ _ _ _)) (grown_set _ _ _ _)) (grown_set _ _ _ _)) (grown_set _ _ _ _)
theorem sets8_new {w W:World} {r:Option Nat} {k:Nat} (h:w.grownBy W r) (hk:w.heap.size≤k) (H:Hp) (s:HSl):w.grownBy (sets8 W k H s) r:=by
 unfold sets8
 exact grown_new (grown_new (grown_new (grown_new (grown_new (grown_new (grown_new (grown_new h hk _ _) hk _ _) hk _ _) hk _ _) hk _ _) hk _ _) hk _ _) hk _ _
theorem sets8_whole {W:World} {k:Nat} {t:TypeId} {a0 a1 a2 a3 a4 a5 a6 a7:Value} (K:Whole W k t [a0,a1,a2,a3,a4,a5,a6,a7]) (H:Hp) (s:HSl):Whole (sets8 W k H s) k t (hcs H s):=by
 unfold sets8
 exact (((((((K.set 0 _).set 1 _).set 2 _).set 3 _).set 4 _).set 5 _).set 6 _).set 7 _
theorem zcs_nob : ∀ u ∈ zcs, ∀ x,u ≠ .int .u8 x:=by
 intro u hu x e
 subst e
 simp [zcs] at hu
set_option maxHeartbeats 1000000 in
theorem mustHeap_yes (H:Hp) (s:HSl) (w:World):Calls Tryz.prog 206 #[hval H s, .int .i64 0] w fun e w'=>e = .returned (hval H s)∧Below w.heap.size w w':=by
 have K2:=Whole.new (w.alloc (.cells (hcs H s).toArray 28)) (hcs H s).toArray 28
 rw [show (w.alloc (.cells (hcs H s).toArray 28)).heap.size=w.heap.size+1 by simp] at K2
 have B:=((Below.refl w.heap.size w).alloc (Nat.le_refl _) (.cells (hcs H s).toArray 28)).alloc (by simp) (.cells (hcs H s).toArray 28)
 have K3:=Lib.hid K2
 have B3:=Lib.hid B
 obtain ⟨A,n,c,F,m,d⟩:=s
 unfold hval hcs at *
 simp only at *
 clear K2 B
 go_enter Tryz.func206,Tryz.ntmps206
 go_wp2
 exact bodyPost_ret (results_c1 rfl _ _ _ _ rfl K3.out Tryz.underlying28 (by kernel_rfl)) rfl ⟨rfl,B3.out⟩
set_option maxHeartbeats 1000000 in
theorem mustHeap_no (H:Hp) (s:HSl) (er:Int) (w:World) (he:(er != 0)=true):Calls Tryz.prog 206 #[hval H s, .int .i64 er] w fun e w'=>e = .panicked gone∧Below w.heap.size w w':=by
 have B:=((Below.refl w.heap.size w).alloc (Nat.le_refl _) (.cells (hcs H s).toArray 28)).alloc (by simp) (.cells zcs.toArray 28)
 obtain ⟨A,n,c,F,m,d⟩:=s
 unfold hval hcs zcs at *
 simp only at *
 have HB:=Lib.hid B
 clear B
 go_enter Tryz.func206,Tryz.ntmps206
 go_wp2_with fail
 refine (giveUp_any _).mono ?_
 rintro e w' ⟨rfl,rfl⟩
 go_wp2
 exact ⟨rfl,rfl,HB.out⟩
theorem checkH_any (s:HSl) (H:Hp) (w:World) (h:RdH w s H) (hL:LongH H) (hT:Tab w):Calls Tryz.prog 21 #[hval H s] w (Tells w (.int .i64 (chkH H))):=by
 by_cases hs:H.fr.length≤600
 ·exact check_heap s H w h ⟨hL.1,hs,hL.2.2⟩ hT
 ·exact check_heapL s H w h hL (fun q=>hs (by have:=q.len256;omega)) hT
def gp (od n:Int):Bool:=decide (3≤od∧od≤8) && decide (n≤sz od)
theorem gp_right (H:Hp) (h:ImH H):gp H.od H.obs.length=true:=by
 unfold gp
 rw [decide_eq_true h.right.fr.1,Bool.true_and]
 have h1:=sumL_ge (blks H)
 rw [h.right.sum] at h1
 unfold blks at h1
 rw [List.length_append,List.length_map] at h1
 exact decide_eq_true (by omega)
structure HpMemR (w:World) (g:Nat) (l:List UInt8) (o:Nat) (W:World) (cs:List Value):Prop where
 rb:Whole W w.heap.size 236 [.pointer (some ⟨g,0,none⟩)]
 res:Whole W (w.heap.size+1) 28 zcs
 hb:Whole W o 28 cs
 rd:Rdr W g l
 gr:w.grownBy W (some g)
 lt:w.heap.size+1 < o
 tab:Tab W
theorem HpMemR.call {w W W2:World} {g o:Nat} {l l2:List UInt8} {cs:List Value} (h:HpMemR w g l o W cs) (hg:g < w.heap.size) (hT:0≠g) (k:W.grownBy W2 (some g)) (r:Rdr W2 g l2):HpMemR w g l2 o W2 cs:=by
 have:=h.lt
 exact ⟨h.rb.grown k (by omega),h.res.grown k (by omega),h.hb.grown k (by omega),r,grown_trans h.gr k,h.lt,h.tab.beside k hT⟩
theorem HpMemR.set {w W:World} {g o:Nat} {l:List UInt8} {cs:List Value} (h:HpMemR w g l o W cs) (hg:g < w.heap.size) (hTl:0 < w.heap.size) (hn : ∀ u ∈ cs,nobV u) (j:Nat) (v:Value):HpMemR w g l o (W.setCell ⟨o,j,none⟩ v) (cs.set j v):=by
 have hl:=h.lt
 have gs:=grown_set W o j v
 exact ⟨h.rb.grown gs (by omega),h.res.grown gs (by omega),h.hb.set j v,h.rd.apart (h.hb.noByte hn) (by omega) gs,grown_new h.gr (by omega) j v,hl,h.tab.beside gs (by have:=hTl;omega)⟩
theorem HpMemR.rise {w W W2:World} {g o:Nat} {l:List UInt8} {cs:List Value} (h:HpMemR w g l o W cs) (b:Below W.heap.size W W2):HpMemR w g l o W2 cs :=
 ⟨h.rb.below b,h.res.below b,h.hb.below b,h.rd.keep b h.rd.lt,grown_trans h.gr (grown_below b _),h.lt,h.tab.below b⟩
def tcs (od nx:Int) (v1 v7:Value) (vs:List Int) (m:Nat):List Value := [.int .i64 od,v1, .int .i64 nx]++((intvs vs++reps m (.int .i64 0)) ++ [v7])
theorem tcs_set (od nx:Int) (v1 v7:Value) (vs:List Int) (m:Nat) (x:Int):(tcs od nx v1 v7 vs (m+1)).set (3+vs.length) (.int .i64 x)=tcs od nx v1 v7 (vs ++ [x]) m:=by
 unfold tcs intvs reps
 rw [List.set_append_right _ _ (by simp),List.set_append_left _ _ (by simp),List.set_append_right _ _ (by simp)]
 simp [List.replicate_succ]
theorem tcs_get (od nx:Int) (v1 v7:Value) (vs:List Int) (m:Nat):(tcs od nx v1 v7 vs (m+1))[3+vs.length]? = some (.int .i64 0):=by
 unfold tcs intvs reps
 rw [List.getElem?_append_right (by simp),List.getElem?_append_left (by simp),List.getElem?_append_right (by simp)]
 simp [List.replicate_succ]
theorem tcs_nob (od nx:Int) (v1 v7:Value) (vs:List Int) (m:Nat) (h1:nobV v1) (h7:nobV v7) : ∀ u ∈ tcs od nx v1 v7 vs m,nobV u:=by
 intro u hu x e
 unfold tcs intvs reps at hu
 simp only [List.mem_append,List.mem_cons,List.not_mem_nil,or_false,List.mem_map,List.mem_replicate] at hu
 subst e
 rcases hu with (h | h | h) | (⟨y,_,h⟩ | ⟨_,h⟩) | h
 ·cases h
 ·exact h1 x h.symm
 ·cases h
 ·cases h
 ·cases h
 ·exact h7 x h.symm
def R8 (w:World) (g:Nat) (l:List UInt8) (o:Nat) (od nx t0 t1 t2 t3:Int) (v7:Value) (wc:World):Prop :=
 ∃ (os:List (Ob × OSl)) (r:List UInt8) (A:Option Addr) (n c:Nat),praw gp l=some (⟨od,os.map (·.1),nx, [t0,t1,t2,t3], []⟩,r) ∧
  HpMemR w g r o wc [.int .i64 od, .slice A n c, .int .i64 nx, .int .i64 t0, .int .i64 t1, .int .i64 t2, .int .i64 t3,v7]∧OwnOs 60 3 wc (o+1) (.slice A n c) os
theorem R8.mk_ {w W:World} {g o b:Nat} {l r:List UInt8} {od nx t0 t1 t2 t3:Int} {v1 v7:Value} {xs:List Ob} {os:List (Ob × OSl)} {A:Option Addr} {n c:Nat} (hP:praw gp l=some (⟨od,xs,nx, [t0,t1,t2,t3], []⟩,r)) (hos:xs=os.map (·.1)) (hg:g < w.heap.size) (hTl:0 < w.heap.size) (h1:nobV v1) (h7:nobV v7)
  (M:HpMemR w g r o W [.int .i64 od,v1, .int .i64 nx, .int .i64 t0, .int .i64 t1, .int .i64 t2, .int .i64 t3,v7]) (O:OwnOs 60 3 W b (.slice A n c) os) (hb:o < b):R8 w g l o od nx t0 t1 t2 t3 v7 (W.setCell ⟨o,1,none⟩ (.slice A n c)):=by
 subst hos
 refine ⟨os,r,A,n,c,hP,M.set hg hTl (fun u hu => ?_) 1 (.slice A n c),(O.grown (grown_set W o 1 _) (fun k hk e=>by have:=(O.row_lt k hk).1;injection e with e;omega) (fun k hk e=>by have:=(O.lt k hk).1;injection e with e;omega)).mono hb⟩
 simp only [List.mem_cons,List.not_mem_nil,or_false] at hu
 rcases hu with rfl | rfl | rfl | rfl | rfl | rfl | rfl | rfl
 ·exact fun _ e=>by cases e
 ·exact h1
 ·exact fun _ e=>by cases e
 ·exact fun _ e=>by cases e
 ·exact fun _ e=>by cases e
 ·exact fun _ e=>by cases e
 ·exact fun _ e=>by cases e
 ·exact h7
theorem praw_ok {l r:List UInt8} {R:Hp} (h:praw gp l=some (R,r)):R.obs.length≤256∧(R.obs.length:Int)≤sz R.od∧3≤R.od∧R.od≤8∧R.nx≤2147483647∧R.tp.length=4∧R.fr = [] ∧ ∀ x ∈ R.obs,DomO x∧BlkOk x:=by
 obtain ⟨d,_⟩:=(praw_codec gp).sound _ _ _ h
 obtain ⟨d1,d2,d3,d4,d5,d6,d7⟩:=d
 unfold gp at d5
 rw [Bool.and_eq_true,decide_eq_true_iff,decide_eq_true_iff] at d5
 have h8:=sz_le256 (o:=R.od) (by omega) d5.1.2
 refine ⟨by omega,d5.2,d5.1.1,d5.1.2,d2.2,d3.1,d7,fun x hx=>⟨d6 x hx,?_⟩⟩
 obtain ⟨a1,a2,a3,a4,a5,_,_⟩:=d6 x hx
 have hn:=needI_bd x.ws.length x.ls.length
 refine ⟨a2.1,a2.2,?_,by omega⟩
 rw [a3]
 unfold needI
 rw [if_pos ⟨by omega,by omega,by omega,by omega⟩]
 repeat (split; · omega)
 omega
def R9 (w:World) (g:Nat) (r:List UInt8) (o:Nat) (od nx t0 t1 t2 t3:Int) (A:Option Addr) (c:Nat) (os:List (Ob × OSl)) (wd:World):Prop :=
 ∃ (F':List Blk) (AF:Option Addr) (cF:Nat),HpMemR w g r o wd [.int .i64 od, .slice A os.length c, .int .i64 nx, .int .i64 t0, .int .i64 t1, .int .i64 t2, .int .i64 t3, .slice AF F'.length cF] ∧
  OwnHp wd (o+1) ⟨A,os.length,c,AF,F'.length,cF⟩ os ⟨od,os.map (·.1),nx, [t0,t1,t2,t3],F'⟩∧(F'.length:Int)≤2199023255552 ∧ ∀ F,FreeOf od ((os.map (·.1)).map Ob.bl) F→F'=F
theorem R9.mk_ {w wc W:World} {g o:Nat} {r:List UInt8} {od nx t0 t1 t2 t3 N:Int} {v7:Value} {A AF:Option Addr} {c cF:Nat} {os:List (Ob × OSl)} {F':List Blk} (hN:sz od=N) (hnx:nx≤2147483647) (hg:g < w.heap.size) (hTl:0 < w.heap.size) (h7:nobV v7)
  (M:HpMemR w g r o W [.int .i64 od, .slice A os.length c, .int .i64 nx, .int .i64 t0, .int .i64 t1, .int .i64 t2, .int .i64 t3,v7]) (hoc:o < wc.heap.size) (B:Below wc.heap.size wc W)
  (O:OwnOs 60 3 wc (o+1) (.slice A os.length c) os) (oF:OwnB 57 W wc.heap.size (.slice AF F'.length cF) F') (lF:(F'.length:Int)≤2199023255552) (uF : ∀ od F,N=sz od→FreeOf od ((os.map (·.1)).map Ob.bl) F→F'=F) :
  R9 w g r o od nx t0 t1 t2 t3 A c os (W.setCell ⟨o,7,none⟩ (.slice AF F'.length cF)):=by
 have gs:=grown_set W o 7 (.slice AF F'.length cF)
 refine ⟨F',AF,cF,M.set hg hTl (fun u hu => ?_) 7 _,⟨(O.below B).grown gs (fun k hk e=>by have:=(O.row_lt k hk).1;injection e with e;omega) (fun k hk e=>by have:=(O.lt k hk).1;injection e with e;omega),rfl,(oF.grown gs (fun k hk e=>by have:=(oF.lt k hk).1;injection e with e;omega)).mono (by omega),rfl,by simp only;omega⟩,lF,fun F hF=>uF od F hN.symm hF⟩
 simp only [List.mem_cons,List.not_mem_nil,or_false] at hu
 rcases hu with rfl | rfl | rfl | rfl | rfl | rfl | rfl | rfl
 ·exact fun _ e=>by cases e
 ·exact fun _ e=>by cases e
 ·exact fun _ e=>by cases e
 ·exact fun _ e=>by cases e
 ·exact fun _ e=>by cases e
 ·exact fun _ e=>by cases e
 ·exact fun _ e=>by cases e
 ·exact h7
def TopsRel (w:World) (g o:Nat) (l:List UInt8) (od nx:Int) (v1 v7:Value) (i:Value) (wr:World):Prop :=
 ∃ (k:Nat) (vs:List Int) (r:List UInt8),k≤4∧i = .int .i64 (k:Int)∧prep pnum k l=some (vs,r)∧HpMemR w g r o wr (tcs od nx v1 v7 vs (4 - k))
end Go.Proofs.YtcodpnbemdflcaaGreatDoor

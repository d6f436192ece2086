/-
  Whether two heaps are the same, by the document: contract.
-/
import Derived.Test.YtcodpnbemdflcaaGreatDoorTg15
namespace Go.Proofs.YtcodpnbemdflcaaGreatDoor
open Go.RowKit
theorem four {l:List Int} (h:l.length=4) : ∃ a b c d,l = [a,b,c,d]:=by
 match l,h with
 | [a,b,c,d],_=>exact ⟨a,b,c,d,rfl⟩
theorem sameT_iff (a b c d a' b' c' d':Int):sameT a b c d a' b' c' d'=true ↔ [a,b,c,d] = [a',b',c',d']:=by
 unfold sameT
 simp
def SameHRel (W:World) (l m:List Ob) (i:Value) (wr:World):Prop := ∃ k:Nat,k≤l.length∧i = .int .i64 (k:Int)∧l.take k=m.take k∧Grew W wr
theorem hp_ne {a b:Hp} (h:a≠b):decide (a=b)=false:=decide_eq_false h
set_option maxRecDepth 100000 in
set_option maxHeartbeats 4000000 in
theorem refSameH_any (s s':HSl) (H H':Hp) (w:World) (h:RdH w s H) (h':RdH w s' H') (hS:SmallH H) :
  Calls Tryz.prog 13 #[hval H s,hval H' s'] w (Says w (.bool (decide (H=H')))):=by
 have g1:=((Grew.refl w).alloc (.cells (hcs H s).toArray 28)).alloc (.cells (hcs H' s').toArray 28)
 have K1:=Lib.hid ((Whole.new w (hcs H s).toArray 28).alloc (.cells (hcs H' s').toArray 28))
 have K2:=Lib.hid (Whole.new (w.alloc (.cells (hcs H s).toArray 28)) (hcs H' s').toArray 28)
 have hz0:(w.alloc (.cells (hcs H s).toArray 28)).heap.size=w.heap.size+1:=by simp
 rw [hz0] at K2
 have HO:=Lib.hid (h.obs.below g1.below)
 have HO':=Lib.hid (h'.obs.below g1.below)
 have hlen:=Lib.hid h.obs.len
 have hlen':=Lib.hid h'.obs.len
 have hfl:=h.fr.len
 have hS2:=hS.2.1
 have HS:=Lib.hid hS
 have S5:=fun W (b:Below w.heap.size w W)=>refSame_any s.F s'.F s.m s.d s'.m s'.d H.fr H'.fr W (h.fr.below b) (h'.fr.below b) (by omega)
 have mixed:=mixedP
 obtain ⟨A,n,c,F,m,d⟩:=s
 obtain ⟨A',n',c',F',m',d'⟩:=s'
 obtain ⟨od,obs,nx,tp,fr⟩:=H
 obtain ⟨od',obs',nx',tp',fr'⟩:=H'
 obtain ⟨t0,t1,t2,t3,rfl⟩:=four h.tp
 obtain ⟨u0,u1,u2,u3,rfl⟩:=four h'.tp
 clear h h' hz0 hfl hS2 hS
 simp only [hval,hcs,tget,List.getD_cons_zero,List.getD_cons_succ] at *
 by_cases e1:od=od'
 case neg =>
  have d1:(od != od')=true:=by simp [e1]
  rw [hp_ne (fun e=>e1 (congrArg Hp.od e))]
  have c0:=K1.out.cell 0
  have b0:=K2.out.cell 0
  simp only [List.getElem?_cons_zero] at c0 b0
  go_enter Tryz.func13,Tryz.ntmps13
  go_wp2
  go_ret
  exact ⟨rfl,g1⟩
 subst e1
 by_cases e2:nx=nx'
 case neg =>
  have d2:(nx != nx')=true:=by simp [e2]
  rw [hp_ne (fun e=>e2 (congrArg Hp.nx e))]
  have c0:=K1.out.cell 0
  have b0:=K2.out.cell 0
  have c2:=K1.out.cell 2
  have b2:=K2.out.cell 2
  simp only [List.getElem?_cons_succ,List.getElem?_cons_zero] at c0 b0 c2 b2
  go_enter Tryz.func13,Tryz.ntmps13
  go_wp2
  go_ret
  exact ⟨rfl,g1⟩
 subst e2
 have c0:=K1.out.cell 0
 have b0:=K2.out.cell 0
 have c1:=K1.out.cell 1
 have b1:=K2.out.cell 1
 have c2:=K1.out.cell 2
 have b2:=K2.out.cell 2
 have c3:=K1.out.cell 3
 have b3:=K2.out.cell 3
 have c4:=K1.out.cell 4
 have b4:=K2.out.cell 4
 have c5:=K1.out.cell 5
 have b5:=K2.out.cell 5
 have c6:=K1.out.cell 6
 have b6:=K2.out.cell 6
 have c7:=K1.out.cell 7
 have b7:=K2.out.cell 7
 simp only [List.getElem?_cons_succ,List.getElem?_cons_zero] at c0 b0 c1 b1 c2 b2 c3 b3 c4 b4 c5 b5 c6 b6 c7 b7
 have q:=run_neq_tops t0 t1 t2 t3 u0 u1 u2 u3
 have hiff:=sameT_iff t0 t1 t2 t3 u0 u1 u2 u3
 cases e3:sameT t0 t1 t2 t3 u0 u1 u2 u3 with
 | false =>
  rw [e3] at q
  rw [hp_ne (fun e=>by have:=hiff.2 (congrArg Hp.tp e);rw [e3] at this;cases this)]
  clear hiff e3
  go_enter Tryz.func13,Tryz.ntmps13
  go_wp2
  go_ret
  exact ⟨rfl,g1⟩
 | true =>
  rw [e3] at q
  have Ht:=Lib.hid (hiff.1 e3)
  clear hiff e3
  by_cases e4:n=n'
  case neg =>
   have d4:((n:Int) != (n':Int))=true:=by simp;omega
   rw [hp_ne (fun e=>e4 (by rw [← hlen.out, ← hlen'.out];exact congrArg (fun x=>x.obs.length) e))]
   go_enter Tryz.func13,Tryz.ntmps13
   go_wp2
   go_ret
   exact ⟨rfl,g1⟩
  subst e4
  by_cases e5:fr=fr'
  case neg =>
   rw [decide_eq_false e5] at S5
   rw [hp_ne (fun e=>e5 (congrArg Hp.fr e))]
   go_enter Tryz.func13,Tryz.ntmps13
   go_wp2_with (go_at_call 29;refine (S5 _ g1.below).mono ?_;rintro e w2 ⟨rfl,g2⟩)
   go_ret
   exact ⟨rfl,g1.trans g2⟩
  rw [decide_eq_true e5] at S5
  have Hfr:=Lib.hid e5
  clear e5
  go_enter Tryz.func13,Tryz.ntmps13
  go_upto_region 4 with (go_at_call 29;refine (S5 _ g1.below).mono ?_;rintro e w2 ⟨rfl,g2⟩)
  clear S5 q c0 b0 c1 b1 c2 b2 c3 b3 c4 b4 c5 b5 c6 b6 c7 b7
  have K1':=Lib.hid (K1.out.below g2.below)
  have K2':=Lib.hid (K2.out.below g2.below)
  have HO2:=Lib.hid (HO.out.below g2.below)
  have HO2':=Lib.hid (HO'.out.below g2.below)
  have G2:=Lib.hid (g1.trans g2)
  clear K1 K2 HO HO' g1 g2
  have hn6:n≤600:=by have h1:obs.length≤600:=HS.out.1;have h2:=hlen.out;omega
  go_loopw [5] (SameHRel w2 obs obs') (fun i _=>n - (intOf i).toNat)
  case atStart=>exact ⟨0,Nat.zero_le _,rfl,by simp,Grew.refl _⟩
  case round =>
   obtain ⟨k,hk,rfl,hsm,gr⟩:=hrel
   have c1:=(K1'.out.below gr.below).cell 1
   simp only [List.getElem?_cons_succ,List.getElem?_cons_zero] at c1
   by_cases hlt:k < n
   ·obtain ⟨b',off,x,rfl,hbl,hx,A1,n1,f1,B1,m1,d1,h0,h1,h2,h3,h4,r5,r6⟩:=HO2.out.get hlt
    obtain ⟨b2,off2,y,rfl,hbl2,hy,A2,n2,f2,B2,m2,d2,j0,j1,j2,j3,j4,s5,s6⟩:=HO2'.out.get hlt
    have hbd:=HS.out.2.2 x (List.mem_of_getElem? hx)
    have l5:=r5.len
    have l6:=r6.len
    have z0:=(gr.below.cell (p:=⟨b',off+k*5,none⟩) hbl).trans h0
    have z1:=(gr.below.cell (p:=⟨b',off+k*5+1,none⟩) hbl).trans h1
    have z2:=(gr.below.cell (p:=⟨b',off+k*5+2,none⟩) hbl).trans h2
    have z3:=(gr.below.cell (p:=⟨b',off+k*5+3,none⟩) hbl).trans h3
    have z4:=(gr.below.cell (p:=⟨b',off+k*5+4,none⟩) hbl).trans h4
    have I1:=fun W (b:Below w2.heap.size w2 W)=>refInts_any A1 A2 n1 f1 n2 f2 x.ws y.ws W (r5.below b) (s5.below b) (by omega)
    have I2:=fun W (b:Below w2.heap.size w2 W)=>refInts_any B1 B2 m1 d1 m2 d2 x.ls y.ls W (r6.below b) (s6.below b) (by omega)
    have Hx:=Lib.hid hx
    have Hy:=Lib.hid hy
    have Hsm:=Lib.hid hsm
    have Hk:=Lib.hid hk
    have hki:(k:Int) < (n:Int):=by omega
    have hno : ∀ (_:x≠y),decide (Hp.mk od obs nx [t0,t1,t2,t3] fr=Hp.mk od obs' nx [u0,u1,u2,u3] fr')=false:=fun hxy=>hp_ne fun e=>by
     have e1:=congrArg Hp.obs e
     simp only at e1
     have h1:=Hx.out
     rw [e1,Hy.out] at h1
     injection h1 with h1
     exact hxy h1.symm
    obtain ⟨xh,⟨xa,xo⟩,xw,xl⟩:=x
    obtain ⟨yh,⟨ya,yo⟩,yw,yl⟩:=y
    have ga:=(Grew.refl wr).alloc (.cells #[.int .i64 xh, .int .i64 xa, .int .i64 xo, .slice A1 n1 f1, .slice B1 m1 d1] 60)
    have gb:=(gr.trans ga).below
    have v0:=(gb.cell (p:=⟨b2,off2+k*5,none⟩) hbl2).trans j0
    have v1:=(gb.cell (p:=⟨b2,off2+k*5+1,none⟩) hbl2).trans j1
    have v2:=(gb.cell (p:=⟨b2,off2+k*5+2,none⟩) hbl2).trans j2
    have v3:=(gb.cell (p:=⟨b2,off2+k*5+3,none⟩) hbl2).trans j3
    have v4:=(gb.cell (p:=⟨b2,off2+k*5+4,none⟩) hbl2).trans j4
    have b1:=(K2'.out.below gb).cell 1
    simp only [List.getElem?_cons_succ,List.getElem?_cons_zero] at z0 z1 z2 z3 z4 v0 v1 v2 v3 v4 I1 I2 b1
    have g3:=((Grew.refl wr).alloc (.cells #[.int .i64 xh, .int .i64 xa, .int .i64 xo, .slice A1 n1 f1, .slice B1 m1 d1] 60)).alloc (.cells #[.int .i64 yh, .int .i64 ya, .int .i64 yo, .slice A2 n2 f2, .slice B2 m2 d2] 60)
    have G3:=Lib.hid (gr.trans g3)
    have Kx:=Lib.hid ((Whole.new wr #[.int .i64 xh, .int .i64 xa, .int .i64 xo, .slice A1 n1 f1, .slice B1 m1 d1] 60).alloc (.cells #[.int .i64 yh, .int .i64 ya, .int .i64 yo, .slice A2 n2 f2, .slice B2 m2 d2] 60))
    have Ky:=Lib.hid (Whole.new (wr.alloc (.cells #[.int .i64 xh, .int .i64 xa, .int .i64 xo, .slice A1 n1 f1, .slice B1 m1 d1] 60)) #[.int .i64 yh, .int .i64 ya, .int .i64 yo, .slice A2 n2 f2, .slice B2 m2 d2] 60)
    have hzx:(wr.alloc (.cells #[.int .i64 xh, .int .i64 xa, .int .i64 xo, .slice A1 n1 f1, .slice B1 m1 d1] 60)).heap.size=wr.heap.size+1:=by simp
    rw [hzx] at Ky
    clear hzx
    have qb:=run_neq_blk xa xo ya yo
    clear h0 h1 h2 h3 h4 j0 j1 j2 j3 j4 hx hy hsm hk r5 r6 s5 s6 l5 l6 hbd g3 ga gb
    have hm:=noGuard
    by_cases a1:xh=yh
    case neg =>
     have d1:(xh != yh)=true:=by simp [a1]
     rw [hno fun e=>a1 (congrArg Ob.hd e)]
     clear hno I1 I2
     go_wp2
     go_ret
     exact ⟨rfl,G2.out.trans G3.out⟩
    subst a1
    cases a2:sameB (xa,xo) (ya,yo) with
    | false =>
     rw [a2] at qb
     rw [hno fun e=>by rw [(sameB_iff _ _).2 (congrArg Ob.bl e)] at a2;cases a2]
     clear hno I1 I2 a2
     go_wp2
     go_ret
     exact ⟨rfl,G2.out.trans G3.out⟩
    | true =>
     rw [a2] at qb
     have ab:=(sameB_iff _ _).1 a2
     have Hab:=Lib.hid ab
     clear a2 ab
     by_cases a3:xw=yw
     case neg =>
      rw [decide_eq_false a3] at I1
      rw [hno fun e=>a3 (congrArg Ob.ws e)]
      clear hno I2
      go_wp2_with (go_at_call 30;refine (I1 _ G3.out.below).mono ?_;rintro e w5 ⟨rfl,g5⟩)
      go_ret
      exact ⟨rfl,G2.out.trans (G3.out.trans g5)⟩
     rw [decide_eq_true a3] at I1
     by_cases a4:xl=yl
     case neg =>
      rw [decide_eq_false a4] at I2
      rw [hno fun e=>a4 (congrArg Ob.ls e)]
      clear hno
      go_wp2_with (first | (go_at_call_of 30 n1;refine (I1 _ G3.out.below).mono ?_;rintro e w5 ⟨rfl,g5⟩;have p4:=(Kx.out.below g5.below).cell 4;have q4:=(Ky.out.below g5.below).cell 4;simp only [List.getElem?_cons_succ,List.getElem?_cons_zero] at p4 q4) | (go_at_call 30;refine (I2 _ (G3.out.trans g5).below).mono ?_;rintro e w6 ⟨rfl,g6⟩))
      go_ret
      exact ⟨rfl,G2.out.trans (G3.out.trans (g5.trans g6))⟩
     rw [decide_eq_true a4] at I2
     have Hst:=Lib.hid (show obs.take (k+1)=obs'.take (k+1) by rw [take_snocI Hx.out,take_snocI Hy.out,Hsm.out,Hab.out,a3,a4])
     clear hno a3 a4
     go_wp2_with (first | (go_at_call_of 30 n1;refine (I1 _ G3.out.below).mono ?_;rintro e w5 ⟨rfl,g5⟩;have p4:=(Kx.out.below g5.below).cell 4;have q4:=(Ky.out.below g5.below).cell 4;simp only [List.getElem?_cons_succ,List.getElem?_cons_zero] at p4 q4) | (go_at_call 30;refine (I2 _ (G3.out.trans g5).below).mono ?_;rintro e w6 ⟨rfl,g6⟩))
     go_roundw
     case rel=>exact ⟨k+1,by have:=Hk.out;have:=hlen.out;omega,by go_num,Hst.out,G3.out.trans (g5.trans g6)⟩
     case measure=>simp [intOf];omega
   ·obtain rfl:k=n:=by have:=hlen.out;omega
    have hl1:=hlen.out
    have hl2:=hlen'.out
    rw [List.take_of_length_le (by omega),List.take_of_length_le (by omega)] at hsm
    have He:=Lib.hid (show Hp.mk od obs nx [t0,t1,t2,t3] fr=Hp.mk od obs' nx [u0,u1,u2,u3] fr' by rw [hsm,Ht.out,Hfr.out])
    clear hsm hl1 hl2
    go_wp2
    go_ret
    exact ⟨by rw [decide_eq_true He.out];rfl,G2.out.trans gr⟩
end Go.Proofs.YtcodpnbemdflcaaGreatDoor

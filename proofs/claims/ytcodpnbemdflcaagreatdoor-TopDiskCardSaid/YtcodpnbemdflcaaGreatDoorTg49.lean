/-
  Package pheap: do: an operation on a logged heap: contract.
  Package pheap: Do: contract.
  Package pheap: what a disk tells behind an operation, Force and a crash; the law's disk.
-/
import Derived.Test.YtcodpnbemdflcaaGreatDoorTg26
import Derived.Test.YtcodpnbemdflcaaGreatDoorTg27
import Derived.Test.YtcodpnbemdflcaaGreatDoorTg48
import Derived.Test.YtcodpnbemdflcaaGreatDoorTg4
namespace Go.Proofs.YtcodpnbemdflcaaGreatDoor
open Go.RowKit
def LdoPost (w:World) (base G g p q r n:Nat) (vs:Value) (s:HSl) (os:List (Ob × OSl)) (A F st x:Nat) (H:Hp) (L:List (List UInt8)) (o:Opn) (e:Ending) (w':World):Prop :=
 ∃ (vs':Value) (s':HSl) (os':List (Ob × OSl)) (x':Nat) (L':List (List UInt8)) (S':Dk),e = .returned (.tuple #[.agg #[.int .i64 (doneH H o).2.1, .int .i64 (doneH H o).2.2], .int .i64 0]) ∧
  Lgd w' base G g p q r n vs' s' os' A F st x' (doneH H o).1 L' S'∧Oth (fun k=>k=G∨LX g p q r vs k) w w' ∧
  ((countsB o (doneH H o).2.1=true∧L'=L ++ [opR o]∧x'=x+1)∨(countsB o (doneH H o).2.1=false∧L'=L∧x'=x))∧(∀ k,vs'.ownBlock=some k→vs.ownBlock=some k∨w.heap.size≤k) ∧ ∀ k,HBlk s' os' k→HBlk s os k∨w.heap.size≤k
set_option maxRecDepth 100000 in
set_option maxHeartbeats 4000000 in
theorem ldo_any {w:World} {base G g p q r n:Nat} {vs:Value} {s:HSl} {os:List (Ob × OSl)} {A F st x:Nat} {H:Hp} {L:List (List UInt8)} {S:Dk} (h:Lgd w base G g p q r n vs s os A F st x H L S) (hn:256≤n) (hb:base≤w.heap.size) (hT:Tab w) (k:RightH H) (o:Opn) (ho:IntOp o) (hx:x < 16)
  (hU:off L L.length+np 57≤255) (hA:A≤1000000) (hF1:1≤F) (hF:F+L.length≤1000000) (hl:L.length≤1000) :
  Calls Tryz.prog 25 #[.pointer (some ⟨G,0,none⟩),opv o] w (LdoPost w base G g p q r n vs s os A F st x H L o):=by
 have KOp:=(Whole.new w (opcs o).toArray 45).alloc (.cells rcs.toArray 40)
 have KRs:=Whole.new (w.alloc (.cells (opcs o).toArray 45)) rcs.toArray 40
 have bW:Below w.heap.size w ((w.alloc (.cells (opcs o).toArray 45)).alloc (.cells rcs.toArray 40)):=((Below.refl _ _).alloc (Nat.le_refl _) _).alloc (by simp) _
 have hWs:((w.alloc (.cells (opcs o).toArray 45)).alloc (.cells rcs.toArray 40)).heap.size=w.heap.size+2:=by simp
 rw [World.size_alloc] at KRs
 obtain ⟨wt,hwt⟩ : ∃ wt,wt=doneH H o:=⟨_,rfl⟩
 have HWt:=Lib.hid hwt
 have HB:=Lib.hid (And.intro hn (And.intro hb (And.intro hU (And.intro hA (And.intro hF1 (And.intro hF hl))))))
 have HK:=Lib.hid (And.intro hT (And.intro k ho))
 have HH:=Lib.hid h
 obtain ⟨A2,n2,c2,F2,m2,d2⟩:=s
 obtain ⟨ok,oh,oi,on,okk,ov,ot⟩:=o
 obtain ⟨Q,hQ⟩ : ∃ Q,Q=LdoPost w base G g p q r n vs ⟨A2,n2,c2,F2,m2,d2⟩ os A F st x H L ⟨ok,oh,oi,on,okk,ov,ot⟩:=⟨_,rfl⟩
 rw [← hQ]
 have HQ:=Lib.hid hQ
 clear hQ
 obtain ⟨H',rc,rv⟩:=wt
 obtain ⟨cB,hcB⟩ : ∃ cB,cB=countsB ⟨ok,oh,oi,on,okk,ov,ot⟩ rc:=⟨_,rfl⟩
 have HcB:=Lib.hid hcB
 clear hcB
 clear hwt hn hb hU hA hF1 hF hl hT k ho h
 simp only [opv,opcs,rcs] at KOp KRs bW hWs ⊢
 have mixed:=mixedP
 go_enter Tryz.func25,Tryz.ntmps25
 go_upto_region 1 with (fail)
 generalize (w.alloc _).alloc _=W at KOp KRs bW hWs ⊢
 have S:=Lib.hid fun (W':World) (b:Below W.heap.size W W')=>(by
  have b1:=bW.trans (b.mono bW.size)
  have h1:=do_heap ⟨A2,n2,c2,F2,m2,d2⟩ H ⟨ok,oh,oi,on,okk,ov,ot⟩ W' (HH.out.hp.below b1).rd (right_small HK.out.2.1) (HK.out.1.below b1)
  rw [doH_right HK.out.2.1, ← HWt.out] at h1
  exact h1:Calls Tryz.prog 9 #[hval H ⟨A2,n2,c2,F2,m2,d2⟩,opv ⟨ok,oh,oi,on,okk,ov,ot⟩] W' (InPost W' W'.heap.size (H',rc,rv)))
 simp only [hval,hcs,opv,opcs] at S
 have HOp:=Lib.hid KOp
 have HRs:=Lib.hid KRs
 have HBW:=Lib.hid bW
 have HWs:=Lib.hid hWs
 have mkS:=Lib.hid fun (V:World) (bl:Below W.heap.size W V)=>(by
  have e:=(HH.out.below HBW.out).wh.below bl
  have f:=HOp.out.below bl
  exact ⟨e.cell 1,e.cell 2,e.cell 3,e.cell 4,e.cell 5,e.cell 6,e.cell 7,e.cell 8,f.cell 0,f.cell 1,f.cell 2,f.cell 3,f.cell 4,f.cell 5,f.cell 6⟩:V.cell? ⟨G,1,none⟩=some (.int .i64 H.od)∧V.cell? ⟨G,2,none⟩=some (.slice A2 n2 c2)∧V.cell? ⟨G,3,none⟩=some (.int .i64 H.nx)∧V.cell? ⟨G,4,none⟩=some (.int .i64 (tget H 0))∧V.cell? ⟨G,5,none⟩=some (.int .i64 (tget H 1))∧V.cell? ⟨G,6,none⟩=some (.int .i64 (tget H 2))∧V.cell? ⟨G,7,none⟩=some (.int .i64 (tget H 3))∧V.cell? ⟨G,8,none⟩=some (.slice F2 m2 d2)∧V.cell? ⟨w.heap.size,0,none⟩=some (.int .i64 ok)∧V.cell? ⟨w.heap.size,1,none⟩=some (.int .i64 oh)∧V.cell? ⟨w.heap.size,2,none⟩=some (.int .i64 oi)∧V.cell? ⟨w.heap.size,3,none⟩=some (.int .i64 on)∧V.cell? ⟨w.heap.size,4,none⟩=some (.int .i64 okk)∧V.cell? ⟨w.heap.size,5,none⟩=some (.int .i64 ov)∧V.cell? ⟨w.heap.size,6,none⟩=some (.int .i64 ot))
 obtain ⟨c1,c2',c3,c4,c5,c6,c7,c8,z0,z1,z2,z3,z4,z5,z6⟩:=mkS.out W (Below.refl _ _)
 clear KOp KRs bW hWs
 go_cut [6,7] (fun u v wc=>BxRel W.heap.size W H' rc rv u v wc ∧ ∃ p6 p7,u = .pointer (some ⟨p6,0,none⟩)∧v = .pointer (some ⟨p7,0,none⟩)∧W.heap.size≤p6∧W.heap.size≤p7)
 case first =>
  go_region_held3 (fun W=>W.cell? ⟨G,1,none⟩=some (.int .i64 H.od)∧W.cell? ⟨G,2,none⟩=some (.slice A2 n2 c2)∧W.cell? ⟨G,3,none⟩=some (.int .i64 H.nx)∧W.cell? ⟨G,4,none⟩=some (.int .i64 (tget H 0))∧W.cell? ⟨G,5,none⟩=some (.int .i64 (tget H 1))∧W.cell? ⟨G,6,none⟩=some (.int .i64 (tget H 2))∧W.cell? ⟨G,7,none⟩=some (.int .i64 (tget H 3))∧W.cell? ⟨G,8,none⟩=some (.slice F2 m2 d2)∧W.cell? ⟨w.heap.size,0,none⟩=some (.int .i64 ok)∧W.cell? ⟨w.heap.size,1,none⟩=some (.int .i64 oh)∧W.cell? ⟨w.heap.size,2,none⟩=some (.int .i64 oi)∧W.cell? ⟨w.heap.size,3,none⟩=some (.int .i64 on)∧W.cell? ⟨w.heap.size,4,none⟩=some (.int .i64 okk)∧W.cell? ⟨w.heap.size,5,none⟩=some (.int .i64 ov)∧W.cell? ⟨w.heap.size,6,none⟩=some (.int .i64 ot)) (((with_reducible refine mkS.out _ ?_);first | ((repeat (first | (with_reducible refine bel_alloc ?_ _) | (with_reducible refine Below.setCell ?_ (by dsimp only;first | omega | (simp;omega)) _) | (with_reducible refine Below.drew ?_)));first | (with_reducible exact Below.refl _ _) | (with_reducible exact HB5.out)) | ((repeat (first | (with_reducible refine bel_alloc ?_ _) | (with_reducible refine Below.setCell ?_ (by dsimp only;first | omega | (simp;omega)) _) | (with_reducible refine Below.drew ?_)));first | (with_reducible exact Below.refl _ _) | (with_reducible exact trivial)))) ((go_at_call 9;(with_reducible refine Calls.mono (S.out _ (by ((repeat (first | (with_reducible refine bel_alloc ?_ _) | (with_reducible refine Below.setCell ?_ (by dsimp only;first | omega | (simp;omega)) _) | (with_reducible refine Below.drew ?_)));first | (with_reducible exact Below.refl _ _) | (with_reducible exact trivial)))) ?_);rintro e w5 ⟨⟨A6,n6,c6',F6,k6,d6⟩,os6,rfl,O6,b6⟩;simp only [hval,hcs];have hV:=Lib.hid (bel_is (w:=W) (by ((repeat (first | (with_reducible refine bel_alloc ?_ _) | (with_reducible refine Below.setCell ?_ (by dsimp only;first | omega | (simp;omega)) _) | (with_reducible refine Below.drew ?_)));first | (with_reducible exact Below.refl _ _) | (with_reducible exact trivial))) b6);have HB5:=Lib.hid (hV.out.trans (b6.mono hV.out.size));have hz5:=HB5.out.size;(try (have V6:=whole_is (t:=28) (cs:=zcs) (by ((repeat (first | ((with_reducible apply whole_new');rfl) | (with_reducible apply Whole.alloc) | (with_reducible apply Whole.drew)));try (with_reducible exact trivial))) b6;(try simp only [size_alloc] at V6);have HV6:=Lib.hid V6;have M6:=V6.below b6;obtain ⟨m0,m1,m2,m3,m4,m5,m6,m7⟩:=M6.eight;have mf:=M6.free;have ml:=M6.lt;have mn:=Nat.ne_of_lt M6.lt;have mn':=(Nat.ne_of_lt M6.lt).symm;have m0A:=fun o=>Lib.cell?_alloc_some o m0;have m1A:=fun o=>Lib.cell?_alloc_some o m1;have m2A:=fun o=>Lib.cell?_alloc_some o m2;have m3A:=fun o=>Lib.cell?_alloc_some o m3;have m4A:=fun o=>Lib.cell?_alloc_some o m4;have m5A:=fun o=>Lib.cell?_alloc_some o m5;have m6A:=fun o=>Lib.cell?_alloc_some o m6;have m7A:=fun o=>Lib.cell?_alloc_some o m7;have mfA:=fun (o:Obj) j=>(M6.alloc o).free j;clear M6 V6));(try (have V7:=whole_is (t:=40) (cs:=rcs) (by ((repeat (first | ((with_reducible apply whole_new');rfl) | (with_reducible apply Whole.alloc) | (with_reducible apply Whole.drew)));try (with_reducible exact trivial))) b6;(try simp only [size_alloc] at V7);have HV7:=Lib.hid V7;have M7:=V7.below b6;obtain ⟨q0,q1⟩:=M7.two';have qf:=M7.free;have ql:=M7.lt;have qn:=Nat.ne_of_lt M7.lt;have qn':=(Nat.ne_of_lt M7.lt).symm;have q0A:=fun o=>Lib.cell?_alloc_some o q0;have q1A:=fun o=>Lib.cell?_alloc_some o q1;have qfA:=fun (o:Obj) j=>(M7.alloc o).free j;clear M7 V7));(try (have hbb:=box_beside (HV6.out.below b6) (b0 := .int .i64 0) (b1 := .int .i64 0) (HV7.out.below b6);have qs0:=hbb.1;have qs1:=hbb.2.1;have qsf:=hbb.2.2;clear hbb))))
  ·go_wp2_with fail
   go_meet
   exact ⟨bx_a1 (Nat.le_refl _) hV.out O6 b6,_,_,rfl,rfl,by first | omega | (simp;omega),by first | omega | (simp;omega)⟩
  ·go_wp2_with fail
   go_meet
   exact ⟨bx_a2 (Nat.le_refl _) hV.out O6 b6,_,_,rfl,rfl,by first | omega | (simp;omega),by first | omega | (simp;omega)⟩
  ·go_wp2_with fail
   go_meet
   have hb:=bx_b (rc:=rc) (rv:=rv) (Nat.le_refl _) hV.out O6 b6 HV6.out (by omega);(try unfold set2 at hb);(try unfold set8 at hb);(try simp only at hb);exact ⟨hb,_,_,rfl,rfl,by first | omega | (simp;omega),by first | omega | (simp;omega)⟩
  ·go_wp2_with fail
   go_meet
   have hb:=bx_d (rc:=rc) (rv:=rv) (Nat.le_refl _) hV.out O6 b6 HV6.out (by omega) HV7.out (by omega) (by omega);(try unfold set2 at hb);(try unfold set8 at hb);(try simp only at hb);exact ⟨hb,_,_,rfl,rfl,by first | omega | (simp;omega),by first | omega | (simp;omega)⟩
  ·go_wp2_with fail
   go_meet
   have hb:=bx_c (rc:=rc) (rv:=rv) (Nat.le_refl _) hV.out O6 b6 HV7.out (by omega);(try unfold set2 at hb);(try unfold set8 at hb);(try simp only [hcs] at hb);exact ⟨hb,_,_,rfl,rfl,by first | omega | (simp;omega),by first | omega | (simp;omega)⟩
  ·go_wp2_with fail
   go_meet
   have hb:=bx_d (rc:=rc) (rv:=rv) (Nat.le_refl _) hV.out O6 b6 HV6.out (by omega) HV7.out (by omega) (by omega);(try unfold set2 at hb);(try unfold set8 at hb);(try simp only at hb);exact ⟨hb,_,_,rfl,rfl,by first | omega | (simp;omega),by first | omega | (simp;omega)⟩
 case rest =>
  obtain ⟨⟨⟨A7,n7,c7',F7,m7,d7⟩,os',p6,p7,rfl,rfl,O',K6,K7,bl⟩,p6',p7',e6,e7,h6b,h7b⟩:=hcut
  injection e6 with e6
  injection e6 with e6
  injection e6 with e6
  injection e7 with e7
  injection e7 with e7
  injection e7 with e7
  subst e6 e7
  simp only [hcs] at K6
  clear mkS S c1 c2' c3 c4 c5 c6 c7 c8 z0 z1 z2 z3 z4 z5 z6
  have KOp:=HOp.out.below bl
  have KRs:=HRs.out.below bl
  obtain ⟨z0,z1,z2,z3,z4,z5,z6⟩:=KOp.seven
  obtain ⟨q0,q1⟩:=K7.two
  obtain ⟨r0,r1⟩:=KRs.two
  have rf:=KRs.free
  have bwc:=HBW.out.trans (bl.mono HBW.out.size)
  have hRlt:=HRs.out.lt
  have HBWc:=Lib.hid bl
  have H67:=Lib.hid (And.intro h6b h7b)
  have hlc:=HH.out.below bwc
  have KC:=counts_any ⟨ok,oh,oi,on,okk,ov,ot⟩ rc rv wc
  rw [← HcB.out] at KC
  simp only [opv,opcs] at KC
  have HX:=Lib.hid (And.intro O' (And.intro K6 (And.intro K7 (And.intro KRs (And.intro bwc hlc)))))
  clear O' K7 bl KOp KRs bwc hlc h6b h7b
  cases cB with
  | false =>
   go_upto_region 3 with (go_at_call 54;refine KC.mono ?_;rintro e w3 ⟨rfl,b3⟩;have H3:=Lib.hid b3;clear KC b3)
   have KRs:=HX.out.2.2.2.1.below H3.out
   have K7:=HX.out.2.2.1.below H3.out
   obtain ⟨q0,q1⟩:=K7.two
   obtain ⟨r0,r1⟩:=KRs.two
   have rf:=KRs.free
   have bw3:=HX.out.2.2.2.2.1.trans (H3.out.mono HX.out.2.2.2.2.1.size)
   obtain ⟨k1,g1⟩:=set2_is (rc:=rc) (rv:=rv) KRs
   have b4:=below_grown bw3 g1 bw3.size (by omega)
   unfold set2 at k1 g1 b4
   have HF:=Lib.hid (And.intro k1 b4)
   clear KRs K7 bw3 k1 g1 b4
   go_wp2_with fail
   refine bodyPost_ret (results_c2 rfl _ _ (w.heap.size+1) _ rfl HF.out.1 Tryz.underlying40 (by kernel_rfl)) rfl ?_
   have hH:H'=H:=by
    have:=counts_not HK.out.2.1 (o:=⟨ok,oh,oi,on,okk,ov,ot⟩) (by rw [← HWt.out];exact HcB.out.symm)
    rw [← HWt.out] at this
    exact this
   subst hH
   rw [HQ.out]
   unfold LdoPost
   rw [← HWt.out]
   dsimp only
   rw [← HcB.out]
   exact ⟨vs,_,os,x,L,_,rfl,HH.out.below HF.out.2,Oth.of_below HF.out.2 _, .inr ⟨rfl,rfl,rfl⟩,fun k hk => .inl hk,fun k hk => .inl hk⟩
  | true =>
   have hd16 : ¬ (x:Int)=16:=by omega
   go_upto_region 4 with (go_at_call 54;refine KC.mono ?_;rintro e w3 ⟨rfl,b3⟩;have H3:=Lib.hid b3;clear KC b3)
   clear z0 z1 z2 z3 z4 z5 z6 q0 q1 r0 r1 rf
   have bw3:=HX.out.2.2.2.2.1.trans (H3.out.mono HX.out.2.2.2.2.1.size)
   have hl3:=HH.out.below bw3
   have c9:w3.cell? ⟨G,9,none⟩=some (.int .i64 (x:Int)):=hl3.wh.cell 9
   have cg0:w3.cell? ⟨G,0,none⟩=some (.pointer (some ⟨g,0,none⟩)):=hl3.wh.cell 0
   have KOp:=(HOp.out.below (HBWc.out)).below H3.out
   obtain ⟨z0,z1,z2,z3,z4,z5,z6⟩:=KOp.seven
   have cG:=fun (V:World) (hV:Below w3.heap.size w3 V)=>(hl3.wh.below hV).cell 0
   change ∀ V,Below w3.heap.size w3 V→V.cell? ⟨G,0,none⟩=some (.pointer (some ⟨g,0,none⟩)) at cG
   have KP:=fun (V:World)=>putOp_any [ok,oh,oi,on,okk,ov,ot] rfl V
   change ∀ V,Calls Tryz.prog 56 #[.agg #[.int .i64 ok, .int .i64 oh, .int .i64 oi, .int .i64 on, .int .i64 okk, .int .i64 ov, .int .i64 ot]] V _ at KP
   unfold Gives at KP
   obtain ⟨lb,hlb⟩ : ∃ lb,lb=List.flatMap encI [ok,oh,oi,on,okk,ov,ot]:=⟨_,rfl⟩
   rw [← hlb] at KP
   have hlen:lb.length=56:=by rw [hlb];exact flat_length encI_length _
   obtain ⟨t,ht⟩ : ∃ t,t=opR ⟨ok,oh,oi,on,okk,ov,ot⟩:=⟨_,rfl⟩
   have htl:t.length=57:=by rw [ht,opR_length]
   have htb:t=111 :: lb:=by rw [ht,hlb];rfl
   obtain ⟨hn,hb,hU,hA,hF1,hF,hl⟩:=HB.out
   have KA:=fun (V:World) (hV:Below w3.heap.size w3 V)=>append_la (hl3.la.below hV) (t:=t) hn (Nat.le_trans hb (Nat.le_trans bw3.size hV.size)) (by omega) (by omega) (by rw [htl];exact hU) hA hF1 hF hl
   unfold ApLa at KA
   obtain ⟨sb,hsb⟩ : ∃ sb,sb=ByteArray.mk lb.toArray:=⟨_,rfl⟩
   obtain ⟨sc,hsc⟩ : ∃ sc,sc=ByteArray.mk t.toArray:=⟨_,rfl⟩
   have eb:ByteArray.mk #[111]++sb=sc:=by
    rw [hsb,hsc,htb]
    apply ByteArray.ext
    simp
   rw [← hsc] at KA
   have hsz:sb.size≤1000000:=by
    rw [hsb]
    show lb.toArray.size≤_
    simp [hlen]
   have BR:Below w3.heap.size w3 w3.drew:=(Below.refl _ _).drew
   have HP:=Lib.hid (And.intro hsb (And.intro hsc (And.intro ht (And.intro htb hlb))))
   have H56:=Lib.hid hlen
   have HL3:=Lib.hid (And.intro hl3 bw3)
   clear hsb hsc ht htb hlb hlen htl hn hb hU hA hF1 hF hl hl3 bw3 KOp
   go_upto_region 8 with (fail)
   have hbe:((x:Int) == 16)=false:=by simpa using hd16
   rw [hbe]
   go_cut [9] from 35 to 44 (fun u wd=>u = .int .i64 0 ∧ ∃ vs' S',LogAt wd base g p q r n vs' A F st (L ++ [t]) S'∧Oth (LX g p q r vs) w3 wd ∧ ∀ k,vs'.ownBlock=some k→vs.ownBlock=some k∨w3.heap.size≤k)
   case first =>
    go_region_with (first | (go_at_call 56;refine (KP _).mono ?_;rintro e w5 ⟨v5,rfl,o5,b5⟩;obtain ⟨A5,c5,rfl,_,_,r5⟩:=o5.shapeN H56.out;have kc:=r5.conv (P:=Tryz.prog) c5 93 5 9 Tryz.underlying93 Tryz.underlying5 Tryz.underlying9;rw [← HP.out.1] at kc;have B5:=BR.trans b5;have c05:=cG _ B5;have KA5:=KA _ B5;clear o5 r5 b5) | (go_at_call 55;refine KA5.mono ?_;rintro e w6 ⟨v6,S6,rfl,h6,o6,f6⟩;have H6:=Lib.hid (And.intro h6 (And.intro o6 f6));clear h6 o6 f6))
    all_goals (
     go_wp2_with fail
     go_meet)
    all_goals exact ⟨by first | rfl | go_simp | simp,v6,S6,H6.out.1,(Oth.of_below B5 _).trans H6.out.2.1,fun k hk=>(H6.out.2.2 k hk).imp id fun h=>Nat.le_trans B5.size h⟩
   case rest =>
    obtain ⟨rfl,v6,S6,h6,o6,f6⟩:=hcut
    obtain ⟨hl3,bw3⟩:=HL3.out
    obtain ⟨O',K6,K7,KRs,bwc,hlc⟩:=HX.out
    have hlx : ∀ i,LX g p q r vs i→i < w.heap.size:=fun i hi=>HH.out.la.lt hi
    have sW:=HBW.out.size
    have s3:=H3.out.size
    have sc1:=HBWc.out.size
    have sdd:=o6.size
    obtain ⟨h6b,h7b⟩:=H67.out
    have hGw:=HH.out.wh.lt
    have K6c:=(K6.below H3.out).keep (o6.block p6 (K6.below H3.out).lt fun h=>by have:=hlx _ h;omega)
    have K7c:=(K7.below H3.out).keep (o6.block p7 (K7.below H3.out).lt fun h=>by have:=hlx _ h;omega)
    have KRc:=(KRs.below H3.out).keep (o6.block (w.heap.size+1) (KRs.below H3.out).lt fun h=>by have:=hlx _ h;omega)
    have KGc:=hl3.wh.keep (o6.block G hl3.wh.lt hl3.gl)
    have Oc:=(O'.below H3.out).oth o6 fun k hk h=>by have:=hlx _ h;have:=(O'.lt hk).1;omega
    have e9:=((((((((KGc.set 1 (.int .i64 H'.od)).set 2 (.slice A7 n7 c7')).set 3 (.int .i64 H'.nx)).set 4 (.int .i64 (tget H' 0))).set 5 (.int .i64 (tget H' 1))).set 6 (.int .i64 (tget H' 2))).set 7 (.int .i64 (tget H' 3))).set 8 (.slice F7 m7 d7)).set 9 (.int .i64 ((x:Int)+1))
    have t9:=(((((((((Oth.refl (fun k=>k=G) wc).set rfl 1 (.int .i64 H'.od)).set rfl 2 (.slice A7 n7 c7')).set rfl 3 (.int .i64 H'.nx)).set rfl 4 (.int .i64 (tget H' 0))).set rfl 5 (.int .i64 (tget H' 1))).set rfl 6 (.int .i64 (tget H' 2))).set rfl 7 (.int .i64 (tget H' 3))).set rfl 8 (.slice F7 m7 d7)).set rfl 9 (.int .i64 ((x:Int)+1))
    obtain ⟨k0,k1,k2,k3,k4,k5,k6,k7⟩:=K6c.eight
    have fG:=KGc.free
    have g1:wc.cell? ⟨G,1,none⟩=some _:=KGc.cell 1
    have g2:wc.cell? ⟨G,2,none⟩=some _:=KGc.cell 2
    have g3:wc.cell? ⟨G,3,none⟩=some _:=KGc.cell 3
    have g4:wc.cell? ⟨G,4,none⟩=some _:=KGc.cell 4
    have g5:wc.cell? ⟨G,5,none⟩=some _:=KGc.cell 5
    have g6:wc.cell? ⟨G,6,none⟩=some _:=KGc.cell 6
    have g7:wc.cell? ⟨G,7,none⟩=some _:=KGc.cell 7
    have g8:wc.cell? ⟨G,8,none⟩=some _:=KGc.cell 8
    have g9:wc.cell? ⟨G,9,none⟩=some (.int .i64 (x:Int)):=KGc.cell 9
    have hxw:IntKind.i64.wrap ((x:Int)+1)=(x:Int)+1:=IntWalk.i64_in _ (by omega)
    have HY:=Lib.hid (And.intro e9 (And.intro t9 (And.intro K7c (And.intro KRc Oc))))
    have HZ:=Lib.hid (And.intro h6 (And.intro o6 f6))
    have HN:=Lib.hid (And.intro hlx (And.intro sW (And.intro s3 (And.intro sc1 (And.intro sdd (And.intro h7b hGw))))))
    clear e9 t9 K7c KRc Oc h6 o6 f6 hlx sW s3 sc1 sdd h6b h7b hl3 bw3 O' K6 K7 KRs bwc hlc K6c KGc KP KA cG z0 z1 z2 z3 z4 z5 z6 c9 cg0 eb hbe hsz BR
    go_upto_region 13 with (fail)
    obtain ⟨e9,t9,K7c,KRc,Oc⟩:=HY.out
    generalize ((((((((wc.setCell _ _).setCell _ _).setCell _ _).setCell _ _).setCell _ _).setCell _ _).setCell _ _).setCell _ _).setCell _ _=W9 at e9 t9 ⊢
    obtain ⟨hlx,sW,s3,sc1,sdd,h7b,hGw⟩:=HN.out
    have hp7:p7≠G:=by omega
    have hRG:w.heap.size+1≠G:=by omega
    have K7d:=K7c.keep (t9.block p7 K7c.lt hp7)
    have KRd:=KRc.keep (t9.block (w.heap.size+1) KRc.lt hRG)
    obtain ⟨q0,q1⟩:=K7d.two
    obtain ⟨r0,r1⟩:=KRd.two
    have rf:=KRd.free
    obtain ⟨kR,gR⟩:=set2_is (rc:=rc) (rv:=rv) KRd
    unfold set2 at kR gR
    have HF:=Lib.hid (And.intro kR (And.intro gR (And.intro e9 (And.intro t9 Oc))))
    clear e9 t9 K7c KRc Oc K7d KRd kR gR k0 k1 k2 k3 k4 k5 k6 k7 fG g1 g2 g3 g4 g5 g6 g7 g8 g9
    go_wp2_with fail
    refine bodyPost_ret (results_c2 rfl _ _ (w.heap.size+1) _ rfl HF.out.1 Tryz.underlying40 (by kernel_rfl)) rfl ?_
    rw [HQ.out]
    unfold LdoPost
    rw [← HWt.out]
    dsimp only
    rw [← HcB.out]
    obtain ⟨kR,gR,e9,t9,Oc⟩:=HF.out
    obtain ⟨h6,o6,f6⟩:=HZ.out
    obtain ⟨hl3,bw3⟩:=HL3.out
    have O':=HX.out.1
    have oX:=(t9.mono (Y:=fun k=>k=G∨k=w.heap.size+1) fun _ h => .inl h).trans (Oth.of_grown gR (.inr rfl))
    have OT:=((Oth.of_below bw3 (fun k=>k=G∨LX g p q r vs k∨k=w.heap.size+1)).trans (o6.mono fun _ h => .inr (.inl h))).trans (oX.mono fun _ h=>h.imp id .inr)
    change Whole W9 G 79 (lgd g H' ⟨A7,n7,c7',F7,m7,d7⟩ (x+1)) at e9
    have hvx : ∀ i,LX g p q r v6 i→i < w.heap.size∧LX g p q r vs i∨w3.heap.size≤i:=fun i hi=>by
     rcases hi with e | e | e
     ·exact .inl ⟨hlx i (.inl e), .inl e⟩
     ·exact .inl ⟨hlx i (.inr (.inl e)), .inr (.inl e)⟩
     ·rcases f6 i e with e | e
      ·exact .inl ⟨hlx i (.inr (.inr e)), .inr (.inr e)⟩
      ·exact .inr e
    have gl : ¬ LX g p q r v6 G:=fun h=>by
     rcases hvx G h with e | e
     ·exact HH.out.gl e.2
     ·omega
    refine ⟨v6,⟨A7,n7,c7',F7,m7,d7⟩,os',x+1,L ++ [t],S6,rfl,⟨h6.oth oX fun k hk e => ?_,e9.grown gR (by omega),(Oc.oth oX fun k hk e => ?_).mono (by have:=HB.out.2.1;omega),gl,fun k hk h => ?_,fun k hk e => ?_,HH.out.bG,HH.out.bg⟩,⟨OT.os,OT.tape,OT.output,OT.size,fun k hk hx=>OT.block k hk fun h => ?_⟩, .inl ⟨rfl,by rw [HP.out.2.2.1],rfl⟩,fun k hk=>(f6 k hk).imp id fun h=>by have:=bw3.size;omega,fun k hk => .inr (by have:=(O'.lt hk).1;omega)⟩
    ·rcases e with e | e
     ·subst e
      exact gl hk
     ·rcases hvx k hk with h | h
      ·omega
      ·omega
    ·have:=(O'.lt hk).1
     omega
    ·have h1:=O'.lt hk
     rcases hvx k h with e | e
     ·omega
     ·omega
    ·have:=(O'.lt hk).1
     omega
    ·rcases h with h | h | h
     ·exact hx (.inl h)
     ·exact hx (.inr h)
     ·omega
end Go.Proofs.YtcodpnbemdflcaaGreatDoor
namespace Go.Proofs.YtcodpnbemdflcaaGreatDoor
open Go.RowKit
def PdoPost (w:World) (base P G g p q r n:Nat) (vs:Value) (A F st x:Nat) (H:Hp) (L:List (List UInt8)) (o:Opn) (e:Ending) (w':World):Prop :=
 ∃ (vs':Value) (s':HSl) (os':List (Ob × OSl)) (x':Nat) (L':List (List UInt8)) (S':Dk),e = .returned (.tuple #[.agg #[.int .i64 (doneH H o).2.1, .int .i64 (doneH H o).2.2], .int .i64 0]) ∧
  Phd w' base P G g p q r n vs' s' os' A F st x' (doneH H o).1 L' S'∧Oth (fun k=>k=G∨LX g p q r vs k) w w' ∧
  ((countsB o (doneH H o).2.1=true∧L'=L ++ [opR o]∧x'=x+1)∨(countsB o (doneH H o).2.1=false∧L'=L∧x'=x)) ∧ ∀ k,vs'.ownBlock=some k→vs.ownBlock=some k∨w.heap.size≤k
set_option maxRecDepth 100000 in
set_option maxHeartbeats 4000000 in
theorem pdo_any {w:World} {base P G g p q r n:Nat} {vs:Value} {s:HSl} {os:List (Ob × OSl)} {A F st x:Nat} {H:Hp} {L:List (List UInt8)} {S:Dk} (h:Phd w base P G g p q r n vs s os A F st x H L S) (hn:256≤n) (hb:base≤w.heap.size) (hT:Tab w) (k:RightH H) (o:Opn) (ho:IntOp o) (hx:x < 16)
  (hU:off L L.length+np 57≤255) (hA:A≤1000000) (hF1:1≤F) (hF:F+L.length≤1000000) (hl:L.length≤1000) :
  Calls Tryz.prog 10 #[.pointer (some ⟨P,0,none⟩),opv o] w (PdoPost w base P G g p q r n vs A F st x H L o):=by
 have KOp:=(Whole.new w (opcs o).toArray 45).alloc (.cells rcs.toArray 40)
 have KRs:=Whole.new (w.alloc (.cells (opcs o).toArray 45)) rcs.toArray 40
 have bW:Below w.heap.size w ((w.alloc (.cells (opcs o).toArray 45)).alloc (.cells rcs.toArray 40)):=((Below.refl _ _).alloc (Nat.le_refl _) _).alloc (by simp) _
 rw [World.size_alloc] at KRs
 have hw1:=h.wh.below bW
 have hl1:Lgd _ base G g p q r n vs s os A F st x H L S:=h.lgd.below bW
 have KN:=pnone_any hw1
 have KL:=fun (V:World) (hV:Below _ _ V)=>ldo_any (hl1.below hV) hn (Nat.le_trans hb (Nat.le_trans bW.size hV.size)) ((hT.below bW).below hV) k o ho hx hU hA hF1 hF hl
 unfold LdoPost at KL
 obtain ⟨wt,hwt⟩ : ∃ wt,wt=doneH H o:=⟨_,rfl⟩
 rw [← hwt] at KL
 obtain ⟨Q,hQ⟩ : ∃ Q,Q=PdoPost w base P G g p q r n vs A F st x H L o:=⟨_,rfl⟩
 rw [← hQ]
 have HQ:=Lib.hid (And.intro hQ hwt)
 obtain ⟨cB,hcB⟩ : ∃ cB,cB=countsB o wt.2.1:=⟨_,rfl⟩
 rw [← hcB] at KL
 have HH:=Lib.hid (And.intro h (And.intro hcB bW))
 have HKs:=Lib.hid KRs
 have hRl:=Lib.hid (show w.heap.size+1 < ((w.alloc (.cells (opcs o).toArray 45)).alloc (.cells rcs.toArray 40)).heap.size by simp)
 have hB:=Lib.hid hb
 clear hQ hwt hcB h hn hb hT k ho hx hU hA hF1 hF hl hl1
 obtain ⟨t,ht⟩ : ∃ t,t=opR o:=⟨_,rfl⟩
 rw [← ht] at KL
 have HTt:=Lib.hid ht
 clear ht
 obtain ⟨ok,oh,oi,on,okk,ov,ot⟩:=o
 obtain ⟨H',rc,rv⟩:=wt
 simp only [opv,opcs,rcs] at *
 go_enter Tryz.func10,Tryz.ntmps10
 go_upto_region 1 with (fail)
 generalize (w.alloc _).alloc _=W at *
 obtain ⟨z0,z1,z2,z3,z4,z5,z6⟩:=KOp.seven
 have c0:W.cell? ⟨P,0,none⟩=some (.pointer (some ⟨G,0,none⟩)):=hw1.cell 0
 obtain ⟨r0,r1⟩:=KRs.two
 have rf:=KRs.free
 go_upto_region 3 with (go_at_call 24;refine KN.mono ?_;rintro e w1 ⟨rfl,hw1⟩;have hw1:=hw1.symm;subst hw1)
 have BR:Below W.heap.size W W.drew:=(Below.refl _ _).drew
 have hlt:W.heap.size≤W.drew.heap.size:=Nat.le_refl _
 go_region_with (go_at_call 25;refine (KL _ BR).mono ?_;rintro e w2 ⟨vs',s',os',x',L',S',rfl,l2,o2,d2,f2,b2⟩;have hK2:=(HKs.out.drew).keep (o2.block _ HKs.out.lt (fun e=>by have h1:=HH.out.1;rcases e with e | e;(have:=h1.lgd.wh.lt;omega);(have:=h1.lgd.la.lt e;omega)));obtain ⟨y0,y1⟩:=hK2.two;have yf:=hK2.free;obtain ⟨kR,gR⟩:=set2_is (rc:=rc) (rv:=rv) hK2;unfold set2 at kR gR;have kR:=Lib.hid kR;have gR:=Lib.hid gR;have H2:=Lib.hid (And.intro l2 (And.intro o2 (And.intro d2 (And.intro f2 (And.intro b2 hK2)))));clear l2 o2 d2 f2 b2 hK2)
 all_goals (
  go_wp2_with fail
  refine bodyPost_ret (results_c2 rfl _ _ (w.heap.size+1) _ rfl kR.out Tryz.underlying40 (by kernel_rfl)) rfl ?_
  rw [HQ.out.1]
  unfold PdoPost
  rw [← HQ.out.2]
  dsimp only
  obtain ⟨h,hcB,bW⟩:=HH.out
  rw [← hcB, ← HTt.out]
  obtain ⟨l2,o2,d2,f2,b2,hK2⟩:=H2.out
  have sW:=bW.size
  have hR:=hRl.out
  have hlx : ∀ i,LX g p q r vs i→i < w.heap.size:=fun i hi=>h.lgd.la.lt hi
  have hGw:=h.lgd.wh.lt
  have hPw:=h.wh.lt
  have hvx : ∀ i,LX g p q r vs' i→i < w.heap.size∧LX g p q r vs i∨W.heap.size≤i:=fun i hi=>by
   rcases hi with e | e | e
   ·exact .inl ⟨hlx i (.inl e), .inl e⟩
   ·exact .inl ⟨hlx i (.inr (.inl e)), .inr (.inl e)⟩
   ·rcases f2 i e with e | e
    ·exact .inl ⟨hlx i (.inr (.inr e)), .inr (.inr e)⟩
    ·exact .inr e
  have hbx : ∀ i,HBlk s' os' i→i < w.heap.size∧HBlk s os i∨W.heap.size≤i:=fun i hi=>(b2 i hi).imp (fun e=>⟨(h.lgd.hp.lt e).2,e⟩) id
  have gR:=gR.out
  have oR:=Oth.of_grown (X:=fun k=>k=w.heap.size+1) gR rfl
  have OT:=((Oth.of_below (bW.trans (BR.mono sW)) (fun k=>(k=G∨LX g p q r vs k)∨k=w.heap.size+1)).trans (o2.mono fun _ h => .inl h)).trans (oR.mono fun _ h => .inr h)
  refine ⟨vs',s',os',x',L',S',rfl,⟨⟨l2.la.oth oR fun k hk e => ?_,l2.wh.grown gR (by omega),l2.hp.oth oR fun k hk e => ?_,l2.gl,l2.hl,l2.hg,l2.bG,l2.bg⟩,?_,h.pG,fun e => ?_,fun e => ?_,h.bP⟩,⟨OT.os,OT.tape,OT.output,OT.size,fun k hk hx=>OT.block k hk fun e => ?_⟩,d2,fun k hk=>(f2 k hk).imp id fun e=>Nat.le_trans sW e⟩
  ·rcases hvx k hk with e' | e' <;> omega
  ·rcases hbx k hk with e' | e' <;> omega
  ·exact ((h.wh.below (bW.trans (BR.mono sW))).keep (o2.block P (by have:=BR.size;omega) fun e=>e.elim (fun e=>h.pG e) h.pl)).grown gR (by omega)
  ·rcases hvx P e with e' | e'
   ·exact h.pl e'.2
   ·omega
  ·rcases hbx P e with e' | e'
   ·exact h.ph e'.2
   ·omega
  ·rcases e with e | e
   ·exact hx e
   ·omega)
end Go.Proofs.YtcodpnbemdflcaaGreatDoor
namespace Go.Proofs.YtcodpnbemdflcaaGreatDoor
open Go.RowKit
theorem PhD.crash {H0 H:Hp} {A F st cnt:Nat} {ag:Nat→Nat} {C:Nat→Ct} {L:List (List UInt8)} {S:Dk} {rest:List (List UInt8)} (h:DLog 0 255 A F st cnt ag L C S) (hL:L=hpcs H0++rest) (hr:Redo H0 rest H) (k:ImH H0) (hx:H0.nx≤65535) (hn : ∀ i,S.had i=none) (keep:List Bool) {ks:List Nat} (hk:Dirty S.had ks) :
  PhD (crS S keep ks) H0.od H A F st L := .inr ⟨cnt,ag,C,H0,rest,h.crash (fun _ _=>hn _) keep hk,hL,hr,k,hx,rfl⟩
theorem PhD.new (r:Int):PhD newD r (newH r) 0 1 0 [] := .inl ⟨⟨rfl,rfl⟩,fun _ _=>rfl,rfl,rfl,rfl,rfl,rfl⟩
theorem redo_step {H:Hp} (k:RightH H) {o:Opn} (ho:IntOp o) {L L':List (List UInt8)} {x x':Nat} (hL:L=hpcs H)
  (h:(countsB o (doneH H o).2.1=true∧L'=L ++ [opR o]∧x'=x+1)∨(countsB o (doneH H o).2.1=false∧L'=L∧x'=x)) :
  ∃ rest,L'=hpcs H++rest∧Redo H rest (doneH H o).1:=by
 rcases h with ⟨h1,h2,_⟩ | ⟨h1,h2,_⟩
 ·exact ⟨[opR o],by rw [h2,hL], .inr ⟨o,rfl,ho,h1,rfl⟩⟩
 ·exact ⟨[],by rw [h2,hL,List.append_nil], .inl ⟨rfl,counts_not k h1⟩⟩
theorem disk_any (w:World):Calls Tryz.prog 7 #[.int .i64 256] w fun e w' => ∃ p q r,e = .returned (.pointer (some ⟨p,0,none⟩))∧DAt w' p q r 256 newD∧(∀ k,ds p q r k→w.heap.size≤k)∧Below w.heap.size w w':=by
 have KN:=(newDisk_any 256 w).mono (R':=fun e w' => ∃ p q r,e = .returned (.tuple #[.pointer (some ⟨p,0,none⟩), .int .i64 0])∧DAt w' p q r 256 newD∧(∀ k,ds p q r k→w.heap.size≤k)∧Below w.heap.size w w') fun e w' h=>by
  unfold DNewPost at h
  rw [if_pos (by decide)] at h
  exact h
 go_enter Tryz.func7,Tryz.ntmps7
 go_wp2_with (go_at_call 17;refine KN.mono ?_;rintro e w1 ⟨p,q,r,rfl,d1,f1,b1⟩;have H1:=Lib.hid (And.intro d1 (And.intro f1 b1));clear d1 f1 b1 KN)
 go_ret
 exact ⟨p,q,r,rfl,H1.out⟩
theorem np_1024 {n:Nat} (h:n≤1024):np n≤29:=by
 unfold np
 omega
theorem off_all_le {m:Nat} : ∀ (L:List (List UInt8)),(∀ t ∈ L,np t.length≤m)→off L L.length≤m*L.length:=fun L h=>by
 unfold off
 rw [List.take_of_length_le (Nat.le_refl _)]
 induction L with
 | nil=>simp
 | cons a L ih =>
  have h1:=h a (by simp)
  have h2:=ih fun t ht=>h t (List.mem_cons_of_mem _ ht)
  simp only [List.map_cons,List.sum_cons,List.length_cons,Nat.mul_add]
  omega
theorem off_hpcs {H:Hp} (k:ImH H) (hx:H.nx≤65535):off (hpcs H) (hpcs H).length≤116:=by
 have h1:=off_all_le (m:=29) (hpcs H) fun t ht=>np_1024 (hpcs_mem ht).2
 have h2:=hpcs_length k hx
 omega
theorem off_redo {H H':Hp} {rest:List (List UInt8)} (k:ImH H) (hx:H.nx≤65535) (hr:Redo H rest H'):off (hpcs H++rest) (hpcs H++rest).length≤118:=by
 have h1:=off_hpcs k hx
 rw [off_app]
 rcases hr with ⟨rfl,_⟩ | ⟨o,rfl,_⟩
 ·exact Nat.le_trans h1 (by decide)
 ·have:off [opR o] [opR o].length=np 57:=by simp [off,opR_length]
  have h2:np 57=2:=by decide
  omega
end Go.Proofs.YtcodpnbemdflcaaGreatDoor

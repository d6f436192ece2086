/-
  Package pheap: look: Open is tried on a copy of the disk: contract.
  Package pheap: Open: contract.
  Package pheap: none, Force: contracts.
  Package pheap: Heap: contract.
-/
import Derived.Test.YtcodpnbemdflcaaGreatDoorTg47
namespace Go.Proofs.YtcodpnbemdflcaaGreatDoor
open Go.RowKit
theorem allz_is {x:List UInt8} (h:allz x=true) (hx:x.length=64):x=zs:=by
 unfold zs
 rw [List.eq_replicate_iff]
 refine ⟨hx,fun b hb => ?_⟩
 have:=List.all_eq_true.1 h b hb
 simpa using this
theorem PhD.same {S T:Dk} {r:Int} {H:Hp} {A F st:Nat} {L:List (List UInt8)} (h:PhD S r H A F st L) (hg:Goes T) (hn : ∀ k,k < 256→T.now k=S.now k):PhD T r H A F st L:=by
 rcases h with ⟨_,hz,h3⟩ | ⟨cnt,ag,C,H0,rest,hL,h3⟩
 ·exact .inl ⟨hg,fun k hk=>(hn k hk).trans (hz k hk),h3⟩
 ·refine .inr ⟨cnt,ag,C,H0,rest,⟨hg,fun k hk => ?_,hL.root,hL.ring,hL.safe,hL.young,hL.pcs,hL.age⟩,h3⟩
  rw [Nat.zero_add,hn k hk]
  have:=hL.sec k hk
  rwa [Nat.zero_add] at this
def LkRel (w:World) (p2 q2 r2:Nat) (S:Dk) (i:Value) (wr:World):Prop :=
 ∃ (j:Nat) (T:Dk),j≤256∧i = .int .i64 (j:Int)∧DAt wr p2 q2 r2 256 T∧Goes T∧(∀ i,i < 256→T.now i=if i < j then S.now i else zs)∧Below w.heap.size w wr
set_option maxRecDepth 100000 in
set_option maxHeartbeats 4000000 in
theorem look_any {w:World} {p q r A F st:Nat} {ro:Int} {H:Hp} {S:Dk} {L:List (List UInt8)} (h:PhD S ro H A F st L) (hd:DAt w p q r 256 S) (hA:A≤900000) (hF1:1≤F) (hF:F≤900000) (hl:L.length≤500) (hro:3≤ro∧ro≤8) (hT:Tab w) (k:ImH H) (hx:H.nx≤65535) (hod:H.od=ro)
  (hU:off L L.length+off (hpcs H) (hpcs H).length≤255) :
  Calls Tryz.prog 19 #[.pointer (some ⟨p,0,none⟩), .int .i64 ro] w fun e w'=>e = .returned (.int .i64 0)∧Below w.heap.size w w':=by
 have KN:=(newDisk_any 256 w).mono (R':=fun e w' => ∃ p q r,e = .returned (.tuple #[.pointer (some ⟨p,0,none⟩), .int .i64 0])∧DAt w' p q r 256 newD∧(∀ k,ds p q r k→w.heap.size≤k)∧Below w.heap.size w w') fun e w' h=>by
  unfold DNewPost at h
  rw [if_pos (by decide)] at h
  exact h
 have HD:=Lib.hid hd
 have HB:=Lib.hid (And.intro h (And.intro hA (And.intro hF1 (And.intro hF (And.intro hl (And.intro hro (And.intro hT (And.intro k (And.intro hx (And.intro hod hU))))))))))
 clear h hd hA hF1 hF hl hro hT k hx hod hU
 go_enter Tryz.func19,Tryz.ntmps19
 go_upto_region 2 with (go_at_call 17;refine KN.mono ?_;rintro e w1 ⟨p2,q2,r2,rfl,d2,f2,b2⟩;have H2:=Lib.hid (And.intro d2 (And.intro f2 b2));clear KN d2 f2 b2)
 have KS:=dsize_any (HD.out.below H2.out.2.2)
 go_wp2_with (go_at_call 18;refine KS.mono ?_;rintro e w9 ⟨rfl,hw9⟩;subst hw9)
 go_loopw [18] (LkRel w p2 q2 r2 S) (fun i _=>256 - (Go.RowKit.intOf i).toNat)
 case atStart=>exact ⟨0,newD,Nat.zero_le _,rfl,H2.out.1,⟨rfl,rfl⟩,fun i _=>rfl,H2.out.2.2⟩
 case round =>
  obtain ⟨j,T,hj,rfl,hD2,hG,hN,hb⟩:=hrel
  by_cases hlt:j < 256
  ·have hlen:=HD.out.len j hlt
   obtain ⟨x,hx⟩ : ∃ x,x=S.now j:=⟨_,rfl⟩
   rw [← hx] at hlen
   have KR:=read_any (HD.out.below hb) (j:Int) (l:=x) (er:=0) (by unfold rdL;rw [if_pos (by omega),Int.toNat_natCast,hx]) (by unfold rdE;rw [if_pos (by omega)])
   unfold RdPost at KR
   have HR:=Lib.hid (And.intro hD2 (And.intro hG (And.intro hN (And.intro hb hx))))
   have Hlen:=Lib.hid hlen
   clear hD2 hG hN hb hx hlen
   by_cases hz:allz x=true
   ·go_wp2_with (first | (go_at_call 32;refine KR.mono ?_;rintro e w2 ⟨v,rfl,o2,b2⟩;obtain ⟨A2,c2,rfl,hc2,hm2,r2'⟩:=o2.shapeN Hlen.out;have KB:=pblank_any (c:=c2) r2' (by decide);rw [hz] at KB;have B2:=Lib.hid b2;clear o2 b2 KR r2') | (go_at_call 33;refine KB.mono ?_;rintro e w3 ⟨rfl,hw3⟩;subst hw3))
    go_roundw
    case rel =>
     obtain ⟨hD2,hG,hN,hb,hx⟩:=HR.out
     refine ⟨j+1,T,by omega,by go_num,hD2.below B2.out,hG,fun i hi => ?_,hb.trans (B2.out.mono hb.size)⟩
     rw [hN i hi]
     rcases Nat.lt_trichotomy i j with e | e | e
     ·rw [if_pos e,if_pos (by omega)]
     ·subst e
      rw [if_neg (by omega),if_pos (by omega), ← hx,allz_is hz Hlen.out]
     ·rw [if_neg (by omega),if_neg (by omega)]
    case measure=>simp [Go.RowKit.intOf];omega
   ·have hz:=Bool.eq_false_iff.2 hz
    go_wp2_with (first | (go_at_call 32;refine KR.mono ?_;rintro e w2 ⟨v,rfl,o2,b2⟩;obtain ⟨A2,c2,rfl,hc2,hm2,r2'⟩:=o2.shapeN Hlen.out;have KB:=pblank_any (c:=c2) r2' (by decide);rw [hz] at KB;have B2:=Lib.hid b2;have R2:=Lib.hid (And.intro o2 r2');clear o2 b2 KR r2') | (go_at_call 33;refine KB.mono ?_;rintro e w3 ⟨rfl,hw3⟩;subst hw3) | (go_at_call 34;refine (dwrite_any (c:=c2) (HR.out.1.below B2.out) (j:Int) R2.out.2 (T:=setS T j x) (er:=0) (fun _ a ha hx=>by subst ha;have h1:=HR.out.1.lt hx;have h2:=(R2.out.1.lt a.block rfl).1;omega) (wrS_set HR.out.2.1 hlt Hlen.out).symm (wrE_set HR.out.2.1 hlt Hlen.out).symm).mono ?_;rintro e w4 ⟨rfl,d4,o4⟩;have H4:=Lib.hid (And.intro d4 o4);clear d4 o4))
    go_roundw
    case rel =>
     obtain ⟨hD2,hG,hN,hb,hx⟩:=HR.out
     have hb2:=hb.trans (B2.out.mono hb.size)
     refine ⟨j+1,_,by omega,by go_num,H4.out.1,hG.set j x,fun i hi => ?_,hb2.trans (H4.out.2.below H2.out.2.1 hb2.size)⟩
     show (if i=j then x else T.now i)=_
     rcases Nat.lt_trichotomy i j with e | e | e
     ·rw [if_neg (by omega),hN i hi,if_pos e,if_pos (by omega)]
     ·subst e
      rw [if_pos rfl,if_pos (by omega),hx]
     ·rw [if_neg (by omega),hN i hi,if_neg (by omega),if_neg (by omega)]
    case measure=>simp [Go.RowKit.intOf];omega
  ·obtain rfl:j=256:=by omega
   obtain ⟨h,hA,hF1,hF,hl,hro,hT,k,hx,hod,hU⟩:=HB.out
   have KP:=popen_any (h.same hG fun i hi=>by rw [hN i hi,if_pos hi]) hD2 (Nat.le_refl _) hA hF1 hF hl hro (hT.below hb) (fun e=>by have:=H2.out.2.1 _ e;have:=hT.lt;omega) k hx hod hU
   unfold PoPost at KP
   have HR:=Lib.hid hb
   clear hD2 hG hN hb h hA hF1 hF hl hro hT k hx hod hU
   go_wp2_with (go_at_call 20;refine KP.mono ?_;rintro e w5 ⟨G,g,vs,s,os,st5,S5,rfl,_,_,o5⟩;have H5:=Lib.hid o5;clear o5)
   go_ret
   exact ⟨rfl,HR.out.trans (H5.out.below H2.out.2.1 HR.out.size)⟩
end Go.Proofs.YtcodpnbemdflcaaGreatDoor
namespace Go.Proofs.YtcodpnbemdflcaaGreatDoor
open Go.RowKit
section
variable {w w':World} {base P G g p q r n:Nat} {vs:Value} {s:HSl} {os:List (Ob × OSl)} {A F st x:Nat} {H:Hp} {L:List (List UInt8)} {S:Dk}
theorem Lgd.below (h:Lgd w base G g p q r n vs s os A F st x H L S) (hb:Below w.heap.size w w'):Lgd w' base G g p q r n vs s os A F st x H L S :=
 ⟨h.la.below hb,h.wh.below hb,h.hp.below hb,h.gl,h.hl,h.hg,h.bG,h.bg⟩
theorem Lgd.mono (h:Lgd w base G g p q r n vs s os A F st x H L S) {base':Nat} (hb:base'≤base):Lgd w base' G g p q r n vs s os A F st x H L S :=
 ⟨⟨h.la.lg,h.la.la,h.la.sz.mono hb,h.la.dk,h.la.gx,h.la.vx⟩,h.wh,h.hp.mono hb,h.gl,h.hl,h.hg,Nat.le_trans hb h.bG,Nat.le_trans hb h.bg⟩
end
structure Phd (w:World) (base P G g p q r n:Nat) (vs:Value) (s:HSl) (os:List (Ob × OSl)) (A F st x:Nat) (H:Hp) (L:List (List UInt8)) (S:Dk):Prop where
 lgd:Lgd w base G g p q r n vs s os A F st x H L S
 wh:Whole w P 69 [.pointer (some ⟨G,0,none⟩)]
 pG:P≠G
 pl : ¬ LX g p q r vs P
 ph : ¬ HBlk s os P
 bP:base≤P
def PnPost (w:World) (p q r n A F:Nat) (H:Hp) (e:Ending) (w':World):Prop :=
 ∃ (P G g:Nat) (vs:Value) (s:HSl) (os:List (Ob × OSl)) (st:Nat) (S:Dk),e = .returned (.tuple #[.pointer (some ⟨P,0,none⟩), .int .i64 0])∧Phd w' w.heap.size P G g p q r n vs s os A F st 0 H (hpcs H) S∧(∀ i,S.had i=none)∧Oth (ds p q r) w w'
set_option maxRecDepth 100000 in
set_option maxHeartbeats 4000000 in
theorem pnew_any {w:World} {p q r A F st:Nat} {ro:Int} {H:Hp} {S:Dk} {L:List (List UInt8)} (h:PhD S ro H A F st L) (hd:DAt w p q r 256 S) (hA:A≤900000) (hF1:1≤F) (hF:F≤900000) (hl:L.length≤500) (hro:3≤ro∧ro≤8) (hT:Tab w) (hTd : ¬ ds p q r 0) (k:ImH H) (hx:H.nx≤65535) (hod:H.od=ro)
  (hU:off L L.length+off (hpcs H) (hpcs H).length≤255) :
  Calls Tryz.prog 8 #[.pointer (some ⟨p,0,none⟩), .int .i64 ro] w (PnPost w p q r 256 (A+1) (F+L.length) H):=by
 have KN:=fun W=>new_heap ro W
 unfold NewPost newR newE at KN
 rw [if_pos hro,if_pos hro] at KN
 have KN1:=KN w
 have HH:=Lib.hid (And.intro h hd)
 have KL:=fun (W:World) (hW:Below w.heap.size w W)=>look_any h (hd.below hW) hA hF1 hF hl hro (hT.below hW) k hx hod hU
 have KO:=fun (W:World) (hW:Below w.heap.size w W)=>popen_any h (hd.below hW) (Nat.le_refl _) hA hF1 hF hl hro (hT.below hW) hTd k hx hod hU
 unfold PoPost at KO
 have hp:=Lib.hid (And.intro hA (And.intro hF1 hl))
 clear h hd hA hF1 hF hl hro hT hTd k hx hod hU KN
 go_enter Tryz.func8,Tryz.ntmps8
 go_upto_region 4 with (go_at_call 4;refine KN1.mono ?_;rintro e w2 ⟨⟨A5,n5,c5,F5,m5,d5⟩,rfl,O5,b5⟩;simp only [hval,hcs];have Z:=Whole.new w2 zcs.toArray 28;simp only [zcs] at Z;obtain ⟨z0,z1,z2,z3,z4,z5,z6,z7⟩:=Z.eight;have fr:=Z.free;have H5:=Lib.hid b5;clear KN1 O5 b5 Z)
 have B8:Below w.heap.size w (w2.alloc (.cells (hcs (newH ro) ⟨A5,n5,c5,F5,m5,d5⟩).toArray 28)):=H5.out.alloc H5.out.size _
 simp only [hcs] at B8
 clear z0 z1 z2 z3 z4 z5 z6 z7 fr H5
 generalize w2.alloc _=W3 at B8 ⊢
 have KS:=dsize_any (HH.out.2.below B8)
 have KL3:=KL W3 B8
 have H3:=Lib.hid B8
 clear B8 KL
 go_upto_region 9 with (first | (go_at_call 18;refine KS.mono ?_;rintro e w9 ⟨rfl,hw9⟩;have hw9:=hw9.symm;subst hw9) | (go_at_call 19;refine KL3.mono ?_;rintro e w4 ⟨rfl,b4⟩;have H4:=Lib.hid (H3.out.trans (b4.mono H3.out.size));clear b4 KL3))
 have KO4:=KO _ H4.out
 clear KO KS
 go_wp2_with (go_at_call 20;refine KO4.mono ?_;rintro e w5 ⟨G,g,vs,s,os,st5,S5,rfl,l5,a5,o5⟩;have H5:=Lib.hid (And.intro l5 (And.intro a5 o5));clear l5 a5 o5 KO4)
 refine bodyPost_ret (results_tmp2 rfl _ _ _) rfl ?_
 obtain ⟨l5,a5,o5⟩:=H5.out
 have s4:=H4.out.size
 have s5:=o5.size
 have b6:Below w5.heap.size w5 (w5.alloc (.cells #[.pointer (some ⟨G,0,none⟩)] 69)):=(Below.refl _ _).alloc (Nat.le_refl _) _
 have hLt : ∀ k,LX g p q r vs k→k < w5.heap.size:=fun k hk=>l5.la.lt hk
 have hHt : ∀ k,HBlk s os k→k < w5.heap.size:=fun k hk=>(l5.hp.lt hk).2
 have hGt:G < w5.heap.size:=l5.wh.lt
 refine ⟨w5.heap.size,G,g,vs,s,os,st5,S5,rfl,⟨(l5.mono s4).below b6,Whole.new w5 _ _,?_,?_,?_,?_⟩,a5,?_⟩
 ·omega
 ·intro h
  have:=hLt _ h
  omega
 ·intro h
  have:=hHt _ h
  omega
 ·omega
 ·exact ((Oth.of_below H4.out _).trans o5).alloc _
end Go.Proofs.YtcodpnbemdflcaaGreatDoor
namespace Go.Proofs.YtcodpnbemdflcaaGreatDoor
open Go.RowKit
theorem pnone_any {w:World} {P G:Nat} (h:Whole w P 69 [.pointer (some ⟨G,0,none⟩)]):Calls Tryz.prog 24 #[.pointer (some ⟨P,0,none⟩)] w fun e w'=>e = .returned (.bool false)∧w'=w:=by
 have c0:w.cell? ⟨P,0,none⟩=some (.pointer (some ⟨G,0,none⟩)):=h.cell 0
 clear h
 go_enter Tryz.func24,Tryz.ntmps24
 go_wp2
 go_ret
 exact ⟨rfl,rfl⟩
section
variable {w w':World} {base P G g p q r n:Nat} {vs:Value} {s:HSl} {os:List (Ob × OSl)} {A F st x:Nat} {H:Hp} {L:List (List UInt8)} {S S':Dk}
theorem LX.of_ds {k:Nat} (h:ds p q r k):LX g p q r vs k := .inr (.inl h)
theorem Lgd.disk (h:Lgd w base G g p q r n vs s os A F st x H L S) (hd:DAt w' p q r n S') (hl : ∃ cnt ag C,DLog 0 255 A F st cnt ag L C S') (ho:Oth (ds p q r) w w'):Lgd w' base G g p q r n vs s os A F st x H L S' :=
 ⟨⟨hl,h.la.la.keep (ho.block _ h.la.la.lt h.la.gx),h.la.sz.keep (fun k hk=>ho.block k (h.la.sz.lt k hk).2 (h.la.vx k hk)),hd,h.la.gx,h.la.vx⟩,h.wh.keep (ho.block _ h.wh.lt fun e=>h.gl (LX.of_ds e)),h.hp.oth ho fun k hk e=>h.hl k hk (LX.of_ds e),h.gl,h.hl,h.hg,h.bG,h.bg⟩
theorem Phd.disk (h:Phd w base P G g p q r n vs s os A F st x H L S) (hd:DAt w' p q r n S') (hl : ∃ cnt ag C,DLog 0 255 A F st cnt ag L C S') (ho:Oth (ds p q r) w w'):Phd w' base P G g p q r n vs s os A F st x H L S' :=
 ⟨h.lgd.disk hd hl ho,h.wh.keep (ho.block _ h.wh.lt fun e=>h.pl (LX.of_ds e)),h.pG,h.pl,h.ph,h.bP⟩
theorem pforce_any (h:Phd w base P G g p q r n vs s os A F st x H L S) :
  Calls Tryz.prog 11 #[.pointer (some ⟨P,0,none⟩)] w fun e w'=>e = .returned (.int .i64 0)∧Phd w' base P G g p q r n vs s os A F st x H L (flushS S)∧Oth (ds p q r) w w':=by
 obtain ⟨cnt,ag,C,hl⟩:=h.lgd.la.lg
 have KN:=pnone_any h.wh
 have KF:=force_log h.lgd.la.la h.lgd.la.dk hl.goes
 unfold Tld at KF
 have c0:w.cell? ⟨P,0,none⟩=some (.pointer (some ⟨G,0,none⟩)):=h.wh.cell 0
 have c1:w.cell? ⟨G,0,none⟩=some (.pointer (some ⟨g,0,none⟩)):=h.lgd.wh.cell 0
 have HH:=Lib.hid (And.intro h hl)
 clear h hl
 go_enter Tryz.func11,Tryz.ntmps11
 go_wp2_with (first | (go_at_call 24;refine KN.mono ?_;rintro e w1 ⟨rfl,hw1⟩;have hw1:=hw1.symm;subst hw1) | (go_at_call 26;refine KF.mono ?_;rintro e w2 ⟨rfl,d2,o2⟩;have H2:=Lib.hid (And.intro d2 o2);clear d2 o2 KF))
 go_ret
 exact ⟨rfl,HH.out.1.disk H2.out.1 ⟨cnt,ag,C,HH.out.2.flush⟩ H2.out.2,H2.out.2⟩
end
end Go.Proofs.YtcodpnbemdflcaaGreatDoor
namespace Go.Proofs.YtcodpnbemdflcaaGreatDoor
open Go.RowKit
theorem results_h8 {fn:Func} {p:Tmp} (h:fn.results = #[.cell p 28]) (tmps:Array Value) (w:World) (kp:Nat) (hp:tmps.getD p undef = .pointer (some ⟨kp,0,none⟩)) {a0 a1 a2 a3 a4 a5 a6 a7:Value} (K:Whole w kp 28 [a0,a1,a2,a3,a4,a5,a6,a7]) :
  (results fn tmps).run Tryz.prog w = .ok (.agg #[a0,a1,a2,a3,a4,a5,a6,a7]) w:=by
 have u1:=Tryz.underlying28
 have z1:=Tryz.sizeOf28
 have i1:=Tryz.isAgg28
 have hp':tmps[p]?.getD undef = .pointer (some ⟨kp,0,none⟩):=by simpa using hp
 have c0:=K.cell 0
 have c1:=K.cell 1
 have c2:=K.cell 2
 have c3:=K.cell 3
 have c4:=K.cell 4
 have c5:=K.cell 5
 have c6:=K.cell 6
 have c7:=K.cell 7
 simp only [List.getElem?_cons_succ,List.getElem?_cons_zero] at c0 c1 c2 c3 c4 c5 c6 c7
 simp only [results,h]
 simp [hp',asAddr,loadVar]
 go_simp
def HePost (w:World) (H:Hp) (e:Ending) (w':World):Prop := ∃ s os,e = .returned (hval H s)∧OwnHp w' w.heap.size s os H∧Below w.heap.size w w'
set_option maxRecDepth 100000 in
set_option maxHeartbeats 4000000 in
theorem pheap_any {w:World} {base P G g p q r n:Nat} {vs:Value} {s:HSl} {os:List (Ob × OSl)} {A F st x:Nat} {H:Hp} {L:List (List UInt8)} {S:Dk} (h:Phd w base P G g p q r n vs s os A F st x H L S) (hT:Tab w) (k:RightH H) :
  Calls Tryz.prog 14 #[.pointer (some ⟨P,0,none⟩)] w (HePost w H):=by
 have b0:Below w.heap.size w (w.alloc (.cells zcs.toArray 28)):=(Below.refl _ _).alloc (Nat.le_refl _) _
 have Z0:=Whole.new w zcs.toArray 28
 have h1:Lgd _ base G g p q r n vs s os A F st x H L S:=h.lgd.below b0
 have hw1:=h.wh.below b0
 have KN:=pnone_any hw1
 have KD:=do_heap s H ⟨8,0,0,0,0,0,0⟩ _ h1.hp.rd (right_small k) (hT.below b0)
 rw [doH_right k] at KD
 have hc:(doneH H ⟨8,0,0,0,0,0,0⟩).1=H:=counts_not k (by simp [countsB])
 unfold InPost at KD
 rw [hc] at KD
 have H0:=Lib.hid (And.intro Z0 b0)
 clear Z0 b0 hc h hT k
 simp only [zcs] at *
 obtain ⟨A2,n2,c2',F2,m2,d2⟩:=s
 simp only [hval,hcs,opv,opcs] at KD
 go_enter Tryz.func14,Tryz.ntmps14
 go_upto_region 1 with (fail)
 generalize w.alloc _=W at *
 have c0:W.cell? ⟨P,0,none⟩=some (.pointer (some ⟨G,0,none⟩)):=hw1.cell 0
 have g1:W.cell? ⟨G,1,none⟩=some (.int .i64 H.od):=h1.wh.cell 1
 have g2:W.cell? ⟨G,2,none⟩=some (.slice A2 n2 c2'):=h1.wh.cell 2
 have g3:W.cell? ⟨G,3,none⟩=some (.int .i64 H.nx):=h1.wh.cell 3
 have g4:W.cell? ⟨G,4,none⟩=some (.int .i64 (tget H 0)):=h1.wh.cell 4
 have g5:W.cell? ⟨G,5,none⟩=some (.int .i64 (tget H 1)):=h1.wh.cell 5
 have g6:W.cell? ⟨G,6,none⟩=some (.int .i64 (tget H 2)):=h1.wh.cell 6
 have g7:W.cell? ⟨G,7,none⟩=some (.int .i64 (tget H 3)):=h1.wh.cell 7
 have g8:W.cell? ⟨G,8,none⟩=some (.slice F2 m2 d2):=h1.wh.cell 8
 obtain ⟨z0,z1,z2,z3,z4,z5,z6,z7⟩:=H0.out.1.eight
 go_upto_region 3 with (go_at_call 24;refine KN.mono ?_;rintro e w1 ⟨rfl,hw1⟩;have hw1:=hw1.symm;subst hw1)
 go_upto_region 4 with (go_at_call 9;refine KD.mono ?_;rintro e w2 ⟨⟨A5,n5,c5,F5,m5,d5⟩,os5,rfl,O5,b5⟩;simp only;have H2:=Lib.hid (And.intro O5 b5);clear KD O5 b5)
 have KB:=(Whole.new w2 #[.int .i64 H.od, .slice A5 n5 c5, .int .i64 H.nx, .int .i64 (tget H 0), .int .i64 (tget H 1), .int .i64 (tget H 2), .int .i64 (tget H 3), .slice F5 m5 d5] 28).alloc (.cells #[.int .i64 (doneH H ⟨8,0,0,0,0,0,0⟩).2.1, .int .i64 (doneH H ⟨8,0,0,0,0,0,0⟩).2.2] 40)
 have b7:Below w2.heap.size w2 ((w2.alloc (.cells #[.int .i64 H.od, .slice A5 n5 c5, .int .i64 H.nx, .int .i64 (tget H 0), .int .i64 (tget H 1), .int .i64 (tget H 2), .int .i64 (tget H 3), .slice F5 m5 d5] 28)).alloc (.cells #[.int .i64 (doneH H ⟨8,0,0,0,0,0,0⟩).2.1, .int .i64 (doneH H ⟨8,0,0,0,0,0,0⟩).2.2] 40)):=((Below.refl _ _).alloc (Nat.le_refl _) _).alloc (by simp) _
 generalize (w2.alloc (.cells _ 28)).alloc (.cells _ 40)=W7 at KB b7 ⊢
 obtain ⟨k0,k1,k2,k3,k4,k5,k6,k7⟩:=KB.eight
 have b27:=H2.out.2.trans (b7.mono H2.out.2.size)
 have Z7:=H0.out.1.below b27
 have fr:=Z7.free
 clear z0 z1 z2 z3 z4 z5 z6 z7
 obtain ⟨z0,z1,z2,z3,z4,z5,z6,z7⟩:=Z7.eight
 obtain ⟨e8,gs8⟩:=set8_any (H:=H) (s:=⟨A5,n5,c5,F5,m5,d5⟩) Z7
 have sW:w.heap.size≤W.heap.size:=H0.out.2.size
 have O8:=((H2.out.1.below b7).other Z7 gs8).mono (base':=w.heap.size) sW
 have B8:=below_grown (H0.out.2.trans (b27.mono sW)) gs8 (H0.out.2.trans (b27.mono sW)).size (Nat.le_refl _)
 simp only [set8,hcs] at e8 gs8 O8 B8
 have HF:=Lib.hid (And.intro e8 (And.intro O8 B8))
 clear e8 gs8 O8 B8 KB b7 b27 Z7
 go_wp2_with fail
 refine bodyPost_ret (results_h8 rfl _ _ w.heap.size rfl HF.out.1) rfl ?_
 exact ⟨⟨A5,n5,c5,F5,m5,d5⟩,os5,rfl,HF.out.2.1,HF.out.2.2⟩
end Go.Proofs.YtcodpnbemdflcaaGreatDoor

/-
  Package pheap: lay: a heap's image is appended to its log, and what lies ahead of it is let go: contract.
  Package pheap: open: what a disk tells of a heap (blank, or a log of an image and what came behind it), redo.Open of it and told of its records: contracts.
-/
import Derived.Deep.DeepCutAuto
import Derived.Test.YtcodpnbemdflcaaGreatDoorTg45
import Derived.Test.YtcodpnbemdflcaaGreatDoorTg44
import Derived.Test.YtcodpnbemdflcaaGreatDoorTg26
import Derived.Test.YtcodpnbemdflcaaGreatDoorTg37
import Derived.Test.YtcodpnbemdflcaaGreatDoorTg46
namespace Go.Proofs.YtcodpnbemdflcaaGreatDoor
open Go.RowKit
theorem RdV.blk {w w':World} {b o n:Nat} {l:List Value} (h:RdV w (some ⟨b,o,none⟩) n l) (hs:w.heap.size≤w'.heap.size) (hb:w'.heap[b]? = w.heap[b]?):RdV w' (some ⟨b,o,none⟩) n l :=
 ⟨h.len,fun hn=>by
  obtain ⟨b',o',e,hl,hc⟩:=h.at_ hn
  injection e with e
  injection e with e1 e2
  subst e1 e2
  exact ⟨_,_,rfl,by omega,fun j x hx=>(cell_same (p:=⟨b,o+j,none⟩) hb).trans (hc j x hx)⟩⟩
theorem off_app (L M:List (List UInt8)):off (L++M) (L++M).length=off L L.length+off M M.length:=by
 unfold off
 rw [List.take_of_length_le (Nat.le_refl _),List.take_of_length_le (Nat.le_refl _),List.take_of_length_le (Nat.le_refl _)]
 simp
theorem off_take (M:List (List UInt8)) (j:Nat):off (M.take j) (M.take j).length=off M j:=by
 unfold off
 rw [List.take_of_length_le (Nat.le_refl _)]
def lgd (g:Nat) (H:Hp) (s:HSl) (x:Nat):List Value := [.pointer (some ⟨g,0,none⟩), .int .i64 H.od, .slice s.A s.n s.c, .int .i64 H.nx, .int .i64 (tget H 0), .int .i64 (tget H 1), .int .i64 (tget H 2), .int .i64 (tget H 3), .slice s.F s.m s.d, .int .i64 (x:Int)]
def LayPost (w:World) (base G g p q r n A F:Nat) (vs:Value) (s:HSl) (os:List (Ob × OSl)) (H:Hp) (e:Ending) (w':World):Prop :=
 ∃ vs' st S,e = .returned (.int .i64 0)∧LogAt w' base g p q r n vs' A F st (hpcs H) S∧(∀ i,S.had i=none)∧Whole w' G 79 (lgd g H s 0)∧OwnHp w' base s os H∧Oth (fun k=>k=G∨LX g p q r vs k) w w' ∧ ∀ k,vs'.ownBlock=some k→w.heap.size≤k
def LyRel (w:World) (base g p q r n A F st:Nat) (vs:Value) (L P:List (List UInt8)) (i:Value) (wr:World):Prop :=
 ∃ (j:Nat) (v:Value) (S:Dk),j≤P.length∧i = .int .i64 (j:Int)∧LogAt wr base g p q r n v A F st (L++P.take j) S∧Oth (LX g p q r vs) w wr ∧ ∀ k,v.ownBlock=some k→vs.ownBlock=some k∨w.heap.size≤k
set_option maxRecDepth 100000 in
set_option maxHeartbeats 4000000 in
theorem lay_any {w:World} {base G g p q r n A F st x:Nat} {vs:Value} {L:List (List UInt8)} {S:Dk} {s:HSl} {os:List (Ob × OSl)} {H:Hp} (h:LogAt w base g p q r n vs A F st L S) (hn:256≤n) (hb:base≤w.heap.size)
  (hG:Whole w G 79 (lgd g H s x)) (hO:OwnHp w base s os H) (hGx : ¬ LX g p q r vs G) (hOx : ∀ k,HBlk s os k → ¬ LX g p q r vs k) (hOG : ∀ k,HBlk s os k→k≠G) (hT:Tab w) (k:ImH H) (hx:H.nx≤65535)
  (hU:off L L.length+off (hpcs H) (hpcs H).length≤255) (hA:A≤1000000) (hF1:1≤F) (hF:F≤900000) (hl:L.length≤500) :
  Calls Tryz.prog 37 #[.pointer (some ⟨G,0,none⟩), .int .i64 0] w (LayPost w base G g p q r n A (F+L.length) vs s os H):=by
 have KP:=pieces_heap s H w hO.rd hT k hx (right_small k.right)
 have hP4:=hpcs_length k hx
 have hP1:0 < (hpcs H).length:=by
  have h2:=pkd_pos (enc_pos H)
  show 0 < (signed (grps 1023 (pkd (encH H)))).length
  rw [signed_length,grps_length]
  unfold gcnt
  omega
 obtain ⟨P,hP⟩ : ∃ P,P=hpcs H:=⟨_,rfl⟩
 obtain ⟨N,hN⟩ : ∃ N,P.length=N:=⟨_,rfl⟩
 have hPm : ∀ t ∈ P,1≤t.length∧t.length≤1024:=fun t ht=>hpcs_mem (by rw [← hP];exact ht)
 rw [← hP] at KP hP4 hP1 hU
 rw [hN] at hP4 hP1
 unfold GivesS at KP
 have c0:w.cell? ⟨G,0,none⟩=some (.pointer (some ⟨g,0,none⟩)):=hG.cell 0
 have c1:w.cell? ⟨G,1,none⟩=some (.int .i64 H.od):=hG.cell 1
 have c2:w.cell? ⟨G,2,none⟩=some (.slice s.A s.n s.c):=hG.cell 2
 have c3:w.cell? ⟨G,3,none⟩=some (.int .i64 H.nx):=hG.cell 3
 have c4:w.cell? ⟨G,4,none⟩=some (.int .i64 (tget H 0)):=hG.cell 4
 have c5:w.cell? ⟨G,5,none⟩=some (.int .i64 (tget H 1)):=hG.cell 5
 have c6:w.cell? ⟨G,6,none⟩=some (.int .i64 (tget H 2)):=hG.cell 6
 have c7:w.cell? ⟨G,7,none⟩=some (.int .i64 (tget H 3)):=hG.cell 7
 have c8:w.cell? ⟨G,8,none⟩=some (.slice s.F s.m s.d):=hG.cell 8
 have HH:=Lib.hid (And.intro h (And.intro hG (And.intro hO (And.intro hGx (And.intro hOx hOG)))))
 have HB:=Lib.hid (And.intro hn (And.intro hb (And.intro hU (And.intro hA (And.intro hF1 (And.intro hF hl))))))
 have HP:=Lib.hid (And.intro hP (And.intro hN hPm))
 obtain ⟨A2,n2,c2',F2,m2,d2⟩:=s
 simp only [hval,hcs] at *
 clear h hn hb hG hO hGx hOx hOG hT k hx hU hA hF1 hF hl hP hN hPm
 go_enter Tryz.func37,Tryz.ntmps37
 go_upto_region 2 with (go_at_call 71;refine KP.mono ?_;rintro e w1 ⟨v1,rfl,o1,b1⟩;obtain ⟨g5,c5',rfl,hg5⟩:=o1.formV (n:=N) (by rw [svs_length,HP.out.2.1]) hP1;have H1:=Lib.hid (And.intro o1 (And.intro b1 hg5));clear KP o1 b1 hg5)
 have g51:g5 < w1.heap.size:=(H1.out.1.lt g5 rfl).2
 have hw5:=H1.out.2.2
 have H2:=Lib.hid (show LogAt w1 base g p q r n vs A F st L S from HH.out.1.below H1.out.2.1)
 have H3:=Lib.hid (show Whole w1 G 79 (lgd g H ⟨A2,n2,c2',F2,m2,d2⟩ x) from HH.out.2.1.below H1.out.2.1)
 have R5:=Lib.hid (show RdV w1 (some ⟨g5,0,none⟩) N (svs P) by
  obtain ⟨A8,c8,e8,_,_,hrd⟩:=H1.out.1.shape (n:=N) (by rw [svs_length,HP.out.2.1])
  injection e8 with e8 _ _
  subst e8
  exact hrd)
 have hgG:G < w.heap.size:=HH.out.2.1.lt
 clear c0 c1 c2 c3 c4 c5 c6 c7 c8
 go_wp2_with fail
 go_loopw [19] (LyRel w1 base g p q r n A F st vs L P) (fun i _=>N - (Go.RowKit.intOf i).toNat)
 case atStart=>exact ⟨0,vs,S,Nat.zero_le _,rfl,by rw [List.take_zero,List.append_nil];exact H2.out,Oth.refl _ _,fun _ h => .inl h⟩
 case round =>
  obtain ⟨j,v,S2,hj,rfl,hL,ho,hv⟩:=hrel
  obtain ⟨hP,hN,hPm⟩:=HP.out
  rw [hN] at hj
  have hlx : ∀ i,LX g p q r vs i→i < w.heap.size:=fun i hi=>HH.out.1.lt hi
  have KG:=H3.out.keep (ho.block G H3.out.lt HH.out.2.2.2.1)
  have c0:wr.cell? ⟨G,0,none⟩=some (.pointer (some ⟨g,0,none⟩)):=KG.cell 0
  by_cases hlt:j < N
  ·have R5r:=R5.out.blk ho.size (ho.block g5 g51 (fun h=>by have:=hlx _ h;omega))
   obtain ⟨b,off',y,e1,hbb,hy,hcell⟩:=R5r.cell hlt
   injection e1 with e1
   injection e1 with e1 e2
   subst e1 e2
   obtain ⟨t,ht,rfl⟩ : ∃ t,P[j]? = some t∧y=sv t:=by
    rw [svs,List.getElem?_map] at hy
    cases e:P[j]? with
    | none=>rw [e] at hy;cases hy
    | some t=>rw [e] at hy;injection hy with hy;exact ⟨t,rfl,hy.symm⟩
   rw [Nat.zero_add] at hcell
   change wr.cell? _=some (.string ⟨t.toArray⟩) at hcell
   obtain ⟨hn,hb,hU,hA,hF1,hF,hl⟩:=HB.out
   have htm:=hPm t (List.mem_of_getElem? ht)
   have hjl:(P.take j).length=j:=by rw [List.length_take];omega
   have hofs:=off_succ ht
   have hofm:=off_mono P (show j+1≤P.length by omega)
   have KA:=append_la hL (t:=t) hn (Nat.le_trans hb (Nat.le_trans H1.out.2.1.size ho.size)) htm.1 htm.2 (by rw [off_app,off_take];omega) hA hF1 (by rw [List.length_append,hjl];omega) (by rw [List.length_append,hjl];omega)
   unfold ApLa at KA
   rw [List.append_assoc, ← show P.take (j+1)=P.take j ++ [t] by rw [List.take_add_one,ht];rfl] at KA
   generalize ByteArray.mk t.toArray=sx at hcell KA
   have Ho:=Lib.hid (And.intro ho hv)
   clear hy ht hofs hofm hjl htm hn hb hU hA hF1 hF hl KG R5r hL ho hv hP hN hPm hlx hbb
   go_wp2_with (go_at_call 55;refine KA.mono ?_;rintro e w2 ⟨v2,S3,rfl,h2,o2,f2⟩;have H4:=Lib.hid (And.intro h2 (And.intro o2 f2));clear KA h2 o2 f2)
   go_roundw
   case rel =>
    obtain ⟨h2,o2,f2⟩:=H4.out
    obtain ⟨ho,hv⟩:=Ho.out
    refine ⟨j+1,v2,S3,by rw [HP.out.2.1];omega,by go_num,h2,ho.fresh o2 fun i hi hy => ?_,fun k hk => ?_⟩
    ·rcases hy with e | e | e
     ·exact .inl e
     ·exact .inr (.inl e)
     ·rcases hv i e with e | e
      ·exact .inr (.inr e)
      ·omega
    ·rcases f2 k hk with e | e
     ·exact hv k e
     ·exact .inr (Nat.le_trans ho.size e)
   case measure=>simp [Go.RowKit.intOf];omega
  ·obtain rfl:j=N:=by omega
   rw [show P.take j=P from List.take_of_length_le (Nat.le_of_eq hN)] at hL
   obtain ⟨hn,hb,hU,hA,hF1,hF,hl⟩:=HB.out
   obtain ⟨m,hm⟩ : ∃ m,(L++P).length=m:=⟨_,rfl⟩
   have hm1:m=L.length+j:=by rw [← hm,List.length_append,hN]
   obtain ⟨A6,c6,rfl,_,_,_⟩:=hL.sz.shape (n:=m) (by rw [szs_all,hm])
   obtain ⟨q0,hq0⟩ : ∃ q0,q0=F+L.length:=⟨_,rfl⟩
   have KN:=fun (W:World) (hW:Below wr.heap.size wr W)=>lnext_any (hL.la.below hW) (by omega)
   have KT:=fun (W:World) (hW:Below wr.heap.size wr W)=>trim_la (k:=L.length) (hL.below hW) hn (Nat.le_trans hb (Nat.le_trans H1.out.2.1.size (Nat.le_trans ho.size hW.size))) (by rw [hm];omega) hA (by rw [hm];omega) (by rw [hm];omega)
   unfold TmLa at KT
   rw [List.drop_left' rfl, ← hq0] at KT
   have dV:(F:Int)+(m:Int) - (j:Int)=(q0:Int):=by omega
   have dW:IntKind.i64.wrap (q0:Int)=(q0:Int):=IntWalk.i64_in _ (by omega)
   have BR:Below wr.heap.size wr wr.drew:=(Below.refl _ _).drew
   have cW:=fun (W:World) (hW:Below wr.heap.size wr W)=>(KG.below hW).cell 0
   change ∀ W,Below wr.heap.size wr W→W.cell? ⟨G,0,none⟩=some (.pointer (some ⟨g,0,none⟩)) at cW
   have Ho:=Lib.hid (And.intro ho (And.intro hv (And.intro KG (And.intro hL (And.intro hm1 hq0)))))
   have hFm:F+m≤1000000:=by omega
   clear hv hP hPm hlx hn hb hU hA hF1 hF hl hm hL hm1 hq0 ho KG
   go_wp2_with fail
   go_cut [9] from 33 to 46 (fun u wc=>u = .int .i64 0 ∧ ∃ vs' st' S',LogAt wc base g p q r n vs' A q0 st' P S'∧(∀ i,S'.had i=none)∧Oth (fun k=>k=g∨ds p q r k) wr wc ∧ ∀ k,vs'.ownBlock=some k→wr.heap.size≤k)
   case first =>
    go_region_with (first | (go_at_call 74;refine (KN _ BR).mono ?_;rintro e w6 ⟨rfl,b6⟩;have B6:=BR.trans b6;have c06:=cW _ B6;have KT6:=KT _ B6) | (go_at_call 73;refine KT6.mono ?_;rintro e w7 ⟨v7,st7,S7,rfl,h7,a7,o7,f7⟩;have H7:=Lib.hid (And.intro h7 (And.intro a7 (And.intro o7 f7)));clear h7 a7 o7 f7))
    all_goals (
     go_wp2_with fail
     go_meet)
    all_goals exact ⟨rfl,v7,st7,S7,H7.out.1,H7.out.2.1,(Oth.of_below B6 _).trans H7.out.2.2.1,fun k hk=>Nat.le_trans B6.size (H7.out.2.2.2 k hk)⟩
   case rest =>
    obtain ⟨rfl,v7,st7,S7,h7,a7,o7,f7⟩:=hcut
    obtain ⟨ho,hv,KG,hL,hm1,rfl⟩:=Ho.out
    obtain ⟨hh,hG,hO,hGx,hOx,hOG⟩:=HH.out
    have hlx : ∀ i,LX g p q r vs i→i < w.heap.size:=fun i hi=>hh.lt hi
    have s1:=H1.out.2.1.size
    have s2:=ho.size
    have KC:=KG.keep (o7.block G KG.lt fun h=>hGx (h.elim .inl fun h => .inr (.inl h)))
    have c9:wc.cell? ⟨G,9,none⟩=some (.int .i64 (x:Int)):=KC.cell 9
    have f9:=KC.free 9
    have KS:=KC.set 9 (.int .i64 0)
    have gs:=grown_set wc G 9 (.int .i64 0)
    have OT:Oth (fun k=>k=G∨LX g p q r vs k) w (wc.setCell ⟨G,9,none⟩ (.int .i64 0)):=(((Oth.of_below H1.out.2.1 _).trans (ho.mono fun _ h => .inr h)).trans (o7.mono fun k h => .inr (h.elim .inl fun h => .inr (.inl h)))).set (.inl rfl) 9 _
    have LT:=h7.oth (X:=fun k=>k=G) (Oth.of_grown gs rfl) fun k hk e=>by
     subst e
     rcases hk with e | e | e
     ·exact hGx (.inl e)
     ·exact hGx (.inr (.inl e))
     ·have:=f7 k e
      omega
    have HF:=Lib.hid (show LayPost w base G g p q r n A (F+L.length) vs ⟨A2,n2,c2',F2,m2,d2⟩ os H (.returned (.int .i64 0)) (wc.setCell ⟨G,9,none⟩ (.int .i64 0)) from ⟨v7,st7,S7,rfl,by rw [← HP.out.1];exact LT,a7,KS,hO.oth OT (fun k hk hx=>hx.elim (hOG k hk) (hOx k hk)),OT,fun k hk=>by have:=f7 k hk;omega⟩)
    clear ho hv KG hL hm1 hh hG hO hGx hOx hOG hlx s1 s2 KC KS gs OT LT h7 a7 o7 f7 KN KT cW BR dV dW
    go_wp2_with fail
    go_ret
    exact HF.out
end Go.Proofs.YtcodpnbemdflcaaGreatDoor
namespace Go.Proofs.YtcodpnbemdflcaaGreatDoor
open Go.RowKit
def PhD (S:Dk) (r:Int) (H:Hp) (A F st:Nat) (L:List (List UInt8)):Prop :=
 (Goes S∧(∀ k,k < 256→S.now k=zs)∧H=newH r∧A=0∧F=1∧st=0∧L = []) ∨
 ∃ cnt ag C H0 rest,DLog 0 255 A F st cnt ag L C S∧L=hpcs H0++rest∧Redo H0 rest H∧ImH H0∧H0.nx≤65535∧H0.od=r
theorem PhD.goes {S:Dk} {r:Int} {H:Hp} {A F st:Nat} {L:List (List UInt8)} (h:PhD S r H A F st L):Goes S:=by
 rcases h with h | ⟨_,_,_,_,_,h,_⟩
 ·exact h.1
 ·exact h.goes
def RoPost (w:World) (p q r n A F:Nat) (L:List (List UInt8)) (e:Ending) (w':World):Prop :=
 ∃ (g:Nat) (vt vs:Value) (st:Nat) (S:Dk),e = .returned (.tuple #[.pointer (some ⟨g,0,none⟩), .int .i64 (F:Int),vt, .int .i64 0])∧w.heap.size≤g∧OwnV 9 w' w.heap.size vt (svs L) ∧
  LogAt w' w.heap.size g p q r n vs (A+1) F st L S∧Oth (ds p q r) w w'
theorem redo_open {w:World} {p q r n A F st:Nat} {ro:Int} {H:Hp} {S:Dk} {L:List (List UInt8)} (h:PhD S ro H A F st L) (hd:DAt w p q r n S) (hn:256≤n) (hA:A≤900000) (hF1:1≤F) (hF:F≤900000) (hl:L.length≤1000) :
  Calls Tryz.prog 35 #[.pointer (some ⟨p,0,none⟩), .int .i64 0, .int .i64 256] w (RoPost w p q r n A F L):=by
 have hdl : ∀ k,ds p q r k→k < w.heap.size:=fun k hk=>hd.lt hk
 rcases h with ⟨hg,hz,rfl,rfl,rfl,rfl,rfl⟩ | ⟨cnt,ag,C,H0,rest,hL,_⟩
 ·refine (open_all (ok:=fun T=>T = []) (fr:=0) (se:=256) (A:=0) (F:=1) (st:=0) hd hg (by decide) (by decide) (by omega) (by decide) (by decide) (by decide) fun W g hL hD=>(load_zero hL hD (by omega) (n1:=255) rfl (by decide) (fun j hj=>by rw [Nat.zero_add];exact hz j hj)).mono ?_).mono ?_
  ·rintro e w' ⟨rfl,h1,h2⟩
   exact ⟨[],_,_,rfl,by decide,rfl,OwnV.nil,h1,OwnV.nil,h2⟩
  ·rintro e w' ⟨T,g,vt,vs,rfl,_,rfl,h1,h2,h3,h4,h5,h6⟩
   have hn0:=DLog.new hg 0 255 (by decide) (fun k hk=>by rw [Nat.zero_add];exact hz k (by omega))
   exact ⟨g,vt,vs,0,_,rfl,h1,h2,⟨⟨_,_,_,hn0⟩,h3,h4,h5,fun h=>by have:=hdl _ h;omega,fun k hk h=>by have:=(h4.lt k hk).1;have:=hdl _ h;omega⟩,h6⟩
 ·refine (open_dlog hL hd (by decide) (by decide) (by omega) (by omega) hF1 (by omega) hl).mono ?_
  rintro e w' ⟨T,g,vt,vs,rfl,_,rfl,h1,h2,h3,h4,h5,h6⟩
  have hs:=hL.settle (A':=A+1) (k:=0) (by omega) (by omega) (Nat.zero_le _) (by omega) (by decide)
  simp only [off_zero,Nat.add_zero,Nat.mod_eq_of_lt hL.ring.sn,List.drop_zero] at hs
  exact ⟨g,vt,vs,st,_,rfl,h1,h2,⟨⟨_,_,_,hs⟩,h3,h4,h5,fun h=>by have:=hdl _ h;omega,fun k hk h=>by have:=(h4.lt k hk).1;have:=hdl _ h;omega⟩,h6⟩
theorem told_ph {w:World} {S:Dk} {ro:Int} {H:Hp} {A F st:Nat} {L:List (List UInt8)} {n c:Nat} {B:Option Addr} (h:PhD S ro H A F st L) (hr:RdV w B n (svs L)) (hro:3≤ro∧ro≤8) (hn:n≤1000) (hnc:n≤c) (hc:c≤maxLen) (hT:Tab w) (k:ImH H) (hx:H.nx≤65535) (hod:H.od=ro) :
  Calls Tryz.prog 36 #[.int .i64 ro, .int .i64 (F:Int), .slice B n c] w (ToldPost w H):=by
 rcases h with ⟨hg,hz,rfl,rfl,rfl,rfl,rfl⟩ | ⟨cnt,ag,C,H0,rest,hL,rfl,hre,k0,hx0,ho0⟩
 ·have hl:=hr.len
  have:n=0:=by simpa [svs] using hl.symm
  subst this
  exact told_new hro
 ·rw [← ho0]
  exact told_log hr hn hnc hc hT k0 hx0 k hx (by rw [hod,ho0]) hre
structure Lgd (w:World) (base G g p q r n:Nat) (vs:Value) (s:HSl) (os:List (Ob × OSl)) (A F st x:Nat) (H:Hp) (L:List (List UInt8)) (S:Dk):Prop where
 la:LogAt w base g p q r n vs A F st L S
 wh:Whole w G 79 (lgd g H s x)
 hp:OwnHp w base s os H
 gl : ¬ LX g p q r vs G
 hl : ∀ k,HBlk s os k → ¬ LX g p q r vs k
 hg : ∀ k,HBlk s os k→k≠G
 bG:base≤G
 bg:base≤g
theorem Lgd.laid {w w':World} {base G g p q r n:Nat} {vs:Value} {s:HSl} {os:List (Ob × OSl)} {A F st x:Nat} {H:Hp} {L:List (List UInt8)} {S:Dk} {e:Ending} (h:Lgd w base G g p q r n vs s os A F st x H L S) (k:LayPost w base G g p q r n A (F+L.length) vs s os H e w') :
  ∃ vs' st' S',e = .returned (.int .i64 0)∧Lgd w' base G g p q r n vs' s os A (F+L.length) st' 0 H (hpcs H) S'∧(∀ i,S'.had i=none)∧Oth (fun k=>k=G∨LX g p q r vs k) w w':=by
 obtain ⟨vs',st',S',h1,h2,h3,h4,h5,h6,h7⟩:=k
 refine ⟨vs',st',S',h1,⟨h2,h4,h5,?_,?_,h.hg,h.bG,h.bg⟩,h3,h6⟩
 ·rintro (e | e | e)
  ·exact h.gl (.inl e)
  ·exact h.gl (.inr (.inl e))
  ·have:=h7 G e
   have:=h.wh.lt
   omega
 ·rintro k hk (e | e | e)
  ·exact h.hl k hk (.inl e)
  ·exact h.hl k hk (.inr (.inl e))
  ·have:=h7 k e
   have:=(h.hp.lt hk).2
   omega
def PoPost (w:World) (p q r n A F:Nat) (H:Hp) (e:Ending) (w':World):Prop :=
 ∃ (G g:Nat) (vs:Value) (s:HSl) (os:List (Ob × OSl)) (st:Nat) (S:Dk),e = .returned (.tuple #[.pointer (some ⟨G,0,none⟩), .int .i64 0])∧Lgd w' w.heap.size G g p q r n vs s os A F st 0 H (hpcs H) S∧(∀ i,S.had i=none)∧Oth (ds p q r) w w'
set_option maxRecDepth 100000 in
set_option maxHeartbeats 4000000 in
theorem popen_any {w:World} {p q r n A F st:Nat} {ro:Int} {H:Hp} {S:Dk} {L:List (List UInt8)} (h:PhD S ro H A F st L) (hd:DAt w p q r n S) (hn:256≤n) (hA:A≤900000) (hF1:1≤F) (hF:F≤900000) (hl:L.length≤500) (hro:3≤ro∧ro≤8) (hT:Tab w) (hTd : ¬ ds p q r 0) (k:ImH H) (hx:H.nx≤65535) (hod:H.od=ro)
    (hU : off L L.length + off (hpcs H) (hpcs H).length ≤ 255) :
    Calls Tryz.prog 20 #[.pointer (some ⟨p, 0, none⟩), .int .i64 ro] w (PoPost w p q r n (A + 1) (F + L.length) H) := by
  have KO := redo_open h hd hn hA hF1 hF (by omega)
  unfold RoPost at KO
  obtain ⟨N, hN⟩ : ∃ N, (svs L).length = N := ⟨_, rfl⟩
  have hN5 : N ≤ 500 := by rw [← hN, svs_length]; exact hl
  have HN := Lib.hid hN
  have HH := Lib.hid (And.intro h hd)
  have HB := Lib.hid (And.intro hn (And.intro hA (And.intro hF1 (And.intro hF (And.intro hl hU)))))
  have HK := Lib.hid (And.intro hro (And.intro hT (And.intro k (And.intro hx hod))))
  have HTd := Lib.hid hTd
  clear h hd hn hA hF1 hF hl hro hT k hx hod hU hN hTd
  go_enter Tryz.func20, Tryz.ntmps20
  go_upto_region 4 with (go_at_call 35; refine KO.mono ?_; rintro e w1 ⟨g, vt, vs, st1, S1, rfl, hg, o1, h1, t1⟩; obtain ⟨A7, c7, rfl, hc7, hm7, r7⟩ := o1.shape HN.out; have H1 := Lib.hid (And.intro hg (And.intro h1 t1)); have R7 := Lib.hid (And.intro r7 (And.intro hc7 hm7)); clear KO hg o1 h1 t1 r7 hc7 hm7)
  have HT1 : Tab w1 := HK.out.2.1.keep (H1.out.2.2.block _ HK.out.2.1.lt HTd.out)
  have KT := told_ph HH.out.1 R7.out.1 HK.out.1 (by omega) R7.out.2.1 R7.out.2.2 HT1 HK.out.2.2.1 HK.out.2.2.2.1 HK.out.2.2.2.2
  unfold ToldPost at KT
  go_upto_region 5 with (go_at_call 36; refine KT.mono ?_; rintro e w2 ⟨⟨A5, n5, c5, F5, m5, d5⟩, os5, rfl, O5, b5⟩; simp only [hval, hcs]; have Z := Whole.new w2 zcs.toArray 28; simp only [zcs] at Z; obtain ⟨z0, z1, z2, z3, z4, z5, z6, z7⟩ := Z.eight; have fr := Z.free; have H5 := Lib.hid (And.intro O5 (And.intro b5 Z)); clear KT O5 b5 Z)
  have e8 := Whole.new w2 (hcs H ⟨A5, n5, c5, F5, m5, d5⟩).toArray 28
  have O8 := H5.out.1.below ((Below.refl _ w2).alloc (Nat.le_refl _) (.cells (hcs H ⟨A5, n5, c5, F5, m5, d5⟩).toArray 28))
  have B8 : Below w1.heap.size w1 (w2.alloc (.cells (hcs H ⟨A5, n5, c5, F5, m5, d5⟩).toArray 28)) := H5.out.2.1.alloc H5.out.2.1.size _
  simp only [hcs] at e8 O8 B8
  clear z0 z1 z2 z3 z4 z5 z6 z7 fr
  generalize w2.alloc _ = W3 at e8 O8 B8 ⊢
  obtain ⟨k0, k1, k2, k3, k4, k5, k6, k7⟩ := e8.eight
  have H8 := Lib.hid (And.intro O8 B8)
  clear O8 B8 e8 H5
  go_upto_region 8 with (fail)
  have e9 := Whole.new W3 (lgd g H ⟨A5, n5, c5, F5, m5, d5⟩ 0).toArray 79
  have b9 : Below W3.heap.size W3 (W3.alloc (.cells (lgd g H ⟨A5, n5, c5, F5, m5, d5⟩ 0).toArray 79)) := (Below.refl _ _).alloc (Nat.le_refl _) _
  obtain ⟨O8, B8⟩ := H8.out
  obtain ⟨hg, h1, t1⟩ := H1.out
  have B9 : Below w1.heap.size w1 (W3.alloc (.cells (lgd g H ⟨A5, n5, c5, F5, m5, d5⟩ 0).toArray 79)) := B8.alloc B8.size _
  have s1 := B8.size
  have s0 := t1.size
  have LG : Lgd (W3.alloc (.cells (lgd g H ⟨A5, n5, c5, F5, m5, d5⟩ 0).toArray 79)) w.heap.size W3.heap.size g p q r n vs ⟨A5, n5, c5, F5, m5, d5⟩ os5 (A + 1) F st1 0 H L S1 :=
    { la := h1.below B9
      wh := e9
      hp := (O8.below b9).mono (by omega)
      gl := fun h => by have := h1.lt h; omega
      hl := fun k hk h => by have := h1.lt h; have := (O8.lt hk).1; omega
      hg := fun k hk e => by have := (O8.lt hk).2; omega
      bG := by omega
      bg := hg }
  have T9 : Tab (W3.alloc (.cells (lgd g H ⟨A5, n5, c5, F5, m5, d5⟩ 0).toArray 79)) := HT1.below B9
  have OT := t1.trans (Oth.of_below B9 _)
  have z9 : w.heap.size ≤ (W3.alloc (.cells (lgd g H ⟨A5, n5, c5, F5, m5, d5⟩ 0).toArray 79)).heap.size := OT.size
  simp only [lgd] at LG T9 OT z9
  generalize W3.alloc _ = W4 at LG T9 OT z9 ⊢
  have KL := lay_any LG.la HB.out.1 z9 LG.wh LG.hp LG.gl LG.hl LG.hg T9 HK.out.2.2.1 HK.out.2.2.2.1 HB.out.2.2.2.2.2 (by have := HB.out.2.1; omega) HB.out.2.2.1 HB.out.2.2.2.1 HB.out.2.2.2.2.1
  have H9 := Lib.hid (And.intro LG OT)
  clear LG OT T9 z9 e9 b9 O8 B8 hg h1 t1 B9 s1 s0 k0 k1 k2 k3 k4 k5 k6 k7 H8
  go_wp2_with (go_at_call 37; refine KL.mono ?_; rintro e w5 hLP; obtain ⟨vs5, st5, S5, rfl, L5, a5, o5⟩ := H9.out.1.laid hLP; have HF := Lib.hid (And.intro L5 (And.intro a5 o5)); clear hLP L5 a5 o5 KL)
  refine bodyPost_ret (results_tmp2 rfl _ _ _) rfl ?_
  exact ⟨_, g, vs5, _, os5, st5, S5, rfl, HF.out.1, HF.out.2.1, H9.out.2.fresh HF.out.2.2 fun i hi hx => by
    have hbG := H9.out.1.bG
    have hbg := H9.out.1.bg
    rcases hx with h | h | h | h
    · omega
    · omega
    · exact h
    · have := (H9.out.1.la.sz.lt i h).1
      omega⟩
end Go.Proofs.YtcodpnbemdflcaaGreatDoor

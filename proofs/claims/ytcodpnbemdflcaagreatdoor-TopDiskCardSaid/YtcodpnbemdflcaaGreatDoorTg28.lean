/-
  A heap is laid: contracts of laid.heap and PutHeap.
  A heap is laid: the walk of laid.heap.
  PutHeap: a right heap's bytes, or a refusal.
-/
import Derived.Test.YtcodpnbemdflcaaGreatDoorTg27
import Derived.Test.YtcodpnbemdflcaaGreatDoorTg20
import Derived.Test.YtcodpnbemdflcaaGreatDoorTg21
namespace Go.Proofs.YtcodpnbemdflcaaGreatDoor
open Go.RowKit
theorem Lays.whole {w wr:World} {b base p:Nat} {v v':Value} {bs bs0:List UInt8} {t:TypeId} {cs:List Value} (h:Lays w b base v bs wr v') (hL:Laid w b base v bs0) (K:Whole w p t cs) (h1:t≠153) (h2:t≠5):Whole wr p t cs:=by
 have hne:p≠b:=fun e=>by subst e;exact h1 (by
  have:=K.symm.trans hL.box
  injection this with this
  injection this)
 have hne2:v.ownBlock≠some p:=hL.own.ownV.apart K (fun e=>h2 e.symm)
 exact K.keep (h.left.block p K.lt hne hne2)
theorem lit_rd (W:World) (ns:List Int):RdV (W.alloc (.cells (intvs ns).toArray 3)) (some ⟨W.heap.size,0,none⟩) ns.length (intvs ns):=by
 have:=(Whole.new W (intvs ns).toArray 3).rd
 rwa [List.toList_toArray,intvs_length] at this
theorem numbers_lit (ns:List Int) (b base:Nat) (v:Value) (bs:List UInt8) (w:World) (hN : ∀ x ∈ ns,IsNum x) (hL:Laid w b base v bs) (hbase:base≤w.heap.size) (hn:ns.length≤100) (hbs:bs.length≤1000000) :
  Calls Tryz.prog 213 #[.pointer (some ⟨b,0,none⟩), .slice (some ⟨w.heap.size,0,none⟩) ns.length ns.length] (w.alloc (.cells (intvs ns).toArray 3)) (LaidPost w b base v (bs++ns.flatMap encN)):=by
 have hb1:Below w.heap.size w (w.alloc (.cells (intvs ns).toArray 3)):=(Below.refl _ _).alloc (Nat.le_refl _) _
 have L1:=Lays.begin hL hb1
 refine (numbers_any (some ⟨w.heap.size,0,none⟩) ns.length ns.length ns b base v bs _ (lit_rd w ns) (Off.new (t:=0) hL (Nat.le_refl _) (by simp)) hN L1.laid (by simp;omega) (by omega) hbs).mono ?_
 rintro e wr ⟨v',rfl,hl⟩
 exact ⟨v',rfl,L1.trans hl⟩
theorem Off.arg {w0 w:World} {b base:Nat} {v:Value} {bs:List UInt8} {A:Option Addr} {n:Nat} {xs:List Value} (h:RdV w0 A n xs) (hn:0 < n) (h0:w0.heap.size≤base) (hb:base≤b) (hs:base≤w.heap.size) (L:Laid w b base v bs):Off A b v w.heap.size:=fun a e=>by
 obtain ⟨g,off,e2,hg,_⟩:=h.at_ hn
 rw [e2] at e
 injection e with e
 subst e
 refine ⟨by simp only;omega,fun q => ?_,by simp only;omega⟩
 have:=(L.own.lt _ q).1
 simp only at this
 omega
theorem numbers_arg {w0:World} {A:Option Addr} {n:Nat} (c:Nat) {ns:List Int} {b base:Nat} {v:Value} {bs:List UInt8} {w:World} (h:RdI w0 A n ns) (hw:Below w0.heap.size w0 w) (h0:w0.heap.size≤base) (hb:base≤b) (hN : ∀ x ∈ ns,IsNum x) (hL:Laid w b base v bs) (hbase:base≤w.heap.size) (hn:n≤10000) (hbs:bs.length≤1000000) :
  Calls Tryz.prog 213 #[.pointer (some ⟨b,0,none⟩), .slice A n c] w (LaidPost w b base v (bs++ns.flatMap encN)):=by
 have hl:=h.len
 by_cases h00:n=0
 ·subst h00
  obtain rfl:ns = []:=List.eq_nil_of_length_eq_zero hl
  go_enter Tryz.func213,Tryz.ntmps213
  go_wp2
  go_loopw [10] (fun i wr=>i = .int .i64 0∧wr=w) (fun _ _=>0)
  case atStart=>exact ⟨rfl,rfl⟩
  case round =>
   obtain ⟨rfl,rfl⟩:=hrel
   go_wp2
   first | go_end0 | refine bodyPost_ret (results_none rfl _ _ _) rfl ?_
   exact ⟨v,rfl,by simpa using Lays.refl hL⟩
 ·exact numbers_any A n c ns b base v bs w (RdV.below h hw) (Off.arg h (by omega) h0 hb hbase hL) hN hL hbase hn hbs
theorem ints_arg {w0:World} {A:Option Addr} {n:Nat} (c:Nat) {ns:List Int} {b base:Nat} {v:Value} {bs:List UInt8} {w:World} (h:RdI w0 A n ns) (hw:Below w0.heap.size w0 w) (h0:w0.heap.size≤base) (hb:base≤b) (hL:Laid w b base v bs) (hbase:base≤w.heap.size) (hn:n≤10000) (hbs:bs.length≤1000000) :
  Calls Tryz.prog 137 #[.pointer (some ⟨b,0,none⟩), .slice A n c] w (LaidPost w b base v (bs++ns.flatMap encI)):=by
 have hl:=h.len
 by_cases h00:n=0
 ·subst h00
  obtain rfl:ns = []:=List.eq_nil_of_length_eq_zero hl
  go_enter Tryz.func137,Tryz.ntmps137
  go_wp2
  go_loopw [8] (fun i wr=>i = .int .i64 0∧wr=w) (fun _ _=>0)
  case atStart=>exact ⟨rfl,rfl⟩
  case round =>
   obtain ⟨rfl,rfl⟩:=hrel
   go_wp2
   first | go_end0 | refine bodyPost_ret (results_none rfl _ _ _) rfl ?_
   exact ⟨v,rfl,by simpa using Lays.refl hL⟩
 ·exact ints_any A n c ns b base v bs w (RdV.below h hw) (Off.arg h (by omega) h0 hb hbase hL) hL hbase hn hbs
end Go.Proofs.YtcodpnbemdflcaaGreatDoor
namespace Go.Proofs.YtcodpnbemdflcaaGreatDoor
open Go.RowKit
theorem flat_prefix {α:Type} (f:α→List UInt8) (l:List α) (k:Nat):((l.take k).flatMap f).length≤(l.flatMap f).length:=by
 have:l.flatMap f=(l.take k).flatMap f++(l.drop k).flatMap f:=by rw [← List.flatMap_append,List.take_append_drop]
 rw [this,List.length_append]
 omega
structure LH (w w0:World) (b base:Nat) (v:Value) (bs:List UInt8) (p:Nat) (cs:List Value) (cur:List UInt8) (wr:World) (v':Value):Prop where
 lays:Lays w b base v (bs++cur) wr v'
 box:Whole wr p 28 cs
 arg:Below base w0 wr
theorem LH.next {w w0 wr w2:World} {b base p:Nat} {v v' v2:Value} {bs cur more:List UInt8} {cs:List Value} (h:LH w w0 b base v bs p cs cur wr v') (hb:base≤b) (hs:base≤wr.heap.size) (k:Lays wr b base v' (bs++cur++more) w2 v2):LH w w0 b base v bs p cs (cur++more) w2 v2 :=
 ⟨by rw [← List.append_assoc];exact h.lays.trans k,k.whole h.lays.laid h.box (by decide) (by decide),h.arg.trans ((k.below h.lays.laid hb hs))⟩
theorem LH.rise {w w0 wr W:World} {b base p:Nat} {v v':Value} {bs cur:List UInt8} {cs:List Value} (h:LH w w0 b base v bs p cs cur wr v') (hs:base≤wr.heap.size) (hb:Below wr.heap.size wr W):LH w w0 b base v bs p cs cur W v' :=
 ⟨h.lays.trans (Lays.begin h.lays.laid hb),h.box.below hb,h.arg.trans (hb.mono hs)⟩
theorem encO_parts (x:Ob):encO x = [x.hd,x.bl.1,(x.ws.length:Int),(x.ls.length:Int)].flatMap encN++x.ws.flatMap encI++x.ls.flatMap encN:=by
 unfold encO
 simp
theorem tops_rd {w:World} {p:Nat} {a0 a1 a2 a7:Value} {t0 t1 t2 t3:Int} (K:Whole w p 28 [a0,a1,a2, .int .i64 t0, .int .i64 t1, .int .i64 t2, .int .i64 t3,a7]):RdV w (some ⟨p,3,none⟩) 4 (intvs [t0,t1,t2,t3]) :=
 ⟨rfl,fun _=>⟨p,3,rfl,K.lt,fun j x hx=>by
  have hj:j < 4:=(List.getElem?_eq_some_iff.1 hx).1
  rw [K.cell]
  rcases (show j=0∨j=1∨j=2∨j=3 by omega) with rfl | rfl | rfl | rfl <;> exact hx⟩⟩
theorem Off.box {w:World} {b base p k:Nat} {v:Value} {bs:List UInt8} {t:TypeId} {cs:List Value} (L:Laid w b base v bs) (K:Whole w p t cs) (h1:t≠153) (h2:t≠5):Off (some ⟨p,k,none⟩) b v w.heap.size:=fun a e=>by
 injection e with e
 subst e
 refine ⟨fun q => ?_,L.own.ownV.apart K (fun e=>h2 e.symm),K.lt⟩
 simp only at q
 subst q
 have:=K.symm.trans L.box
 injection this with this
 injection this with _ this
 exact h1 this
def LObRel (w w0:World) (b base:Nat) (v:Value) (bs:List UInt8) (p:Nat) (cs:List Value) (pre:List UInt8) (xs:List Ob) (i:Value) (wr:World):Prop :=
 ∃ (k:Nat) (v':Value),k≤xs.length∧i = .int .i64 (k:Int)∧LH w w0 b base v bs p cs (pre++(xs.take k).flatMap encO) wr v'
set_option maxHeartbeats 4000000 in
theorem laidHeap_any (s:HSl) (H:Hp) (w0:World) (b base:Nat) (v:Value) (bs:List UInt8) (w:World) (h0:RdH w0 s H) (hw:Below base w0 w) (hbe:w0.heap.size≤base) (k:ImH H) (hL:Laid w b base v bs) (hbb:base≤b) (hbase:base≤w.heap.size) (hbs:bs.length≤100000) :
  Calls Tryz.prog 160 #[.pointer (some ⟨b,0,none⟩),hval H s] w (LaidPost w b base v (bs++encH H)):=by
 have hdom:=k.dom (g:=fun _ _=>true) rfl
 have hobD:=fun x hx=>k.domO (x:=x) hx
 have hlen256:=k.right.len
 have hsize:=k.size
 have htp:=k.tp
 have hb1:Below w.heap.size w (w.alloc (.cells (hcs H s).toArray 28)):=(Below.refl _ _).alloc (Nat.le_refl _) _
 have M0:LH w w0 b base v bs w.heap.size (hcs H s) [] (w.alloc (.cells (hcs H s).toArray 28)) v:=⟨by rw [List.append_nil];exact Lays.begin hL hb1,Whole.new w _ _,hw.trans (hb1.mono hbase)⟩
 have HM0:=Lib.hid M0
 obtain ⟨tp,htpe⟩ : ∃ tp,H.tp=tp:=⟨_,rfl⟩
 rw [htpe] at htp
 obtain ⟨t0,t1,t2,t3,rfl⟩:=list4 htp
 have e0:tget H 0=t0:=by unfold tget;rw [htpe];rfl
 have e1:tget H 1=t1:=by unfold tget;rw [htpe];rfl
 have e2:tget H 2=t2:=by unfold tget;rw [htpe];rfl
 have e3:tget H 3=t3:=by unfold tget;rw [htpe];rfl
 have henc:encH H=([H.od,H.nx].flatMap encN ++ [t0,t1,t2,t3].flatMap encN ++ [(H.obs.length:Int)].flatMap encN)++H.obs.flatMap encO:=by
  unfold encH
  rw [htpe]
  simp
 have Henc:=Lib.hid henc
 have HO:=Lib.hid h0.obs
 have hnl:=h0.obs.len
 obtain ⟨A,n,c,F,m,d⟩:=s
 simp only [hval,hcs] at HM0 HO hnl ⊢
 rw [e0,e1,e2,e3] at HM0 ⊢
 have hN1 : ∀ x ∈ [H.od,H.nx],IsNum x:=by
  intro x hx
  simp only [List.mem_cons,List.not_mem_nil,or_false] at hx
  rcases hx with rfl | rfl
  ·exact hdom.1
  ·exact hdom.2.1
 have hN2 : ∀ x ∈ [t0,t1,t2,t3],IsNum x:=by
  have:=hdom.2.2.1.2
  simp only [htpe] at this
  exact this
 have hN3 : ∀ x ∈ [(H.obs.length:Int)],IsNum x:=fun x hx=>by rw [List.mem_singleton.1 hx];exact hdom.2.2.2.1
 clear M0 henc htpe e0 e1 e2 e3 htp hb1 h0 hdom
 generalize hX:encH H=X at *
 go_enter Tryz.func160,Tryz.ntmps160
 clear hX
 go_wp2_with fail
 have hsW:(w.alloc (.cells #[.int .i64 H.od, .slice A n c, .int .i64 H.nx, .int .i64 t0, .int .i64 t1, .int .i64 t2, .int .i64 t3, .slice F m d] 28)).heap.size=w.heap.size+1:=by simp
 generalize w.alloc (.cells #[.int .i64 H.od, .slice A n c, .int .i64 H.nx, .int .i64 t0, .int .i64 t1, .int .i64 t2, .int .i64 t3, .slice F m d] 28)=W at HM0 hsW ⊢
 have R1:=numbers_lit [H.od,H.nx] b base v (bs ++ []) W hN1 HM0.out.lays.laid (by omega) (by simp) (by simp;omega)
 rw [hsW] at R1
 refine Calls.mono R1 ?_
 rintro e w1 ⟨v1,rfl,l1⟩
 have M1:=Lib.hid (HM0.out.next hbb (by omega) l1)
 have hs1:=l1.left.size
 clear R1 l1 HM0
 go_wp2_with fail
 have R2:=numbers_any (some ⟨w.heap.size,3,none⟩) 4 4 [t0,t1,t2,t3] b base v1 _ w1 (tops_rd M1.out.box) (Off.box M1.out.lays.laid M1.out.box (by decide) (by decide)) hN2 M1.out.lays.laid (by omega) (by omega) (by rw [List.length_append,List.length_append,flat_len encN_length];simp;omega)
 refine Calls.mono R2 ?_
 rintro e w2 ⟨v2,rfl,l2⟩
 have M2:=Lib.hid (M1.out.next hbb (by omega) l2)
 have hs2:=l2.left.size
 have c1:=M2.out.box.cell 1
 clear R2 l2 M1
 go_wp2_with fail
 have R3:=numbers_lit [(H.obs.length:Int)] b base v2 _ w2 hN3 M2.out.lays.laid (by omega) (by simp) (by simp only [List.length_append,flat_len encN_length];simp;omega)
 rw [hnl] at R3
 refine Calls.mono R3 ?_
 rintro e w3 ⟨v3,rfl,l3⟩
 have M3:=Lib.hid (M2.out.next hbb (by omega) l3)
 have hs3:=l3.left.size
 have c1:=M3.out.box.cell 1
 clear R3 l3 M2
 have hsz2:((encN H.od).length+0:Nat)≤4:=by rw [encN_length];omega
 obtain ⟨pre,hpre⟩ : ∃ pre,pre = [] ++ [H.od,H.nx].flatMap encN ++ [t0,t1,t2,t3].flatMap encN ++ [(n:Int)].flatMap encN:=⟨_,rfl⟩
 rw [← hpre] at M3
 have hpl:pre.length=28:=by rw [hpre];simp only [List.length_append,flat_len encN_length];rfl
 have Hfin:=Lib.hid (show X=pre++H.obs.flatMap encO from by rw [Henc.out,hpre,hnl];simp)
 clear hpre Henc hsz2
 go_wp2
 go_loopw [26] (LObRel w w0 b base v bs w.heap.size [.int .i64 H.od, .slice A n c, .int .i64 H.nx, .int .i64 t0, .int .i64 t1, .int .i64 t2, .int .i64 t3, .slice F m d] pre H.obs) (fun i _=>n - (intOf i).toNat)
 case atStart=>exact ⟨0,v3,Nat.zero_le _,rfl,by simpa using M3.out⟩
 case round =>
  clear M3 c1
  obtain ⟨j,v',hj,rfl,M⟩:=hrel
  have HM:=Lib.hid M
  have hsr:=M.lays.left.size
  clear M
  by_cases hlt:j < n
  ·have hji:(j:Int) < (n:Int):=by omega
   obtain ⟨b',off,x,rfl,hbl,hx,A1,n1,c1,A2,n2,c2,x0,x1,x2,x3,x4,r1,r2⟩:=HO.out.get hlt
   have hbb':b' < base:=by omega
   have y0:=(HM.out.arg.cell (p:=⟨b',off+j*5,none⟩) hbb').trans x0
   have y1:=(HM.out.arg.cell (p:=⟨b',off+j*5+1,none⟩) hbb').trans x1
   have y2:=(HM.out.arg.cell (p:=⟨b',off+j*5+2,none⟩) hbb').trans x2
   have y3:=(HM.out.arg.cell (p:=⟨b',off+j*5+3,none⟩) hbb').trans x3
   have y4:=(HM.out.arg.cell (p:=⟨b',off+j*5+4,none⟩) hbb').trans x4
   have hD:=hobD x (List.mem_of_getElem? hx)
   have hl1:=r1.len
   have hl2:=r2.len
   have hbr:b' < wr.heap.size:=by omega
   have hbd:(pre++(H.obs.take j).flatMap encO).length≤65600:=by
    have:=flat_prefix encO H.obs j
    have h2:=congrArg List.length Hfin.out
    rw [List.length_append] at h2 ⊢
    omega
   have Htk:=Lib.hid (take_flat encO hx)
   have KX:=Whole.new wr #[.int .i64 x.hd, .int .i64 x.bl.1, .int .i64 x.bl.2, .slice A1 n1 c1, .slice A2 n2 c2] 60
   have MX:=HM.out.rise (by omega) ((Below.refl wr.heap.size wr).alloc (Nat.le_refl _) (.cells #[.int .i64 x.hd, .int .i64 x.bl.1, .int .i64 x.bl.2, .slice A1 n1 c1, .slice A2 n2 c2] 60))
   have hsX:(wr.alloc (.cells #[.int .i64 x.hd, .int .i64 x.bl.1, .int .i64 x.bl.2, .slice A1 n1 c1, .slice A2 n2 c2] 60)).heap.size=wr.heap.size+1:=by simp
   have hN4 : ∀ y ∈ [x.hd,x.bl.1,(x.ws.length:Int),(x.ls.length:Int)],IsNum y:=by
    intro y hy
    obtain ⟨d1,d2,_,d4,d5,_,_⟩:=hD
    simp only [List.mem_cons,List.not_mem_nil,or_false] at hy
    rcases hy with rfl | rfl | rfl | rfl
    ·exact d1
    ·exact d2
    ·exact ⟨by omega,by omega⟩
    ·exact ⟨by omega,by omega⟩
   clear hx x0 x1 x2 x3 x4
   go_wp2_with fail
   generalize wr.alloc (.cells #[.int .i64 x.hd, .int .i64 x.bl.1, .int .i64 x.bl.2, .slice A1 n1 c1, .slice A2 n2 c2] 60)=W5 at KX MX hsX ⊢
   have R5:=numbers_lit _ b base v' _ W5 hN4 MX.lays.laid (by omega) (by simp) (by rw [List.length_append];omega)
   rw [hsX,hl1,hl2] at R5
   refine Calls.mono R5 ?_
   rintro e w6 ⟨v6,rfl,l6⟩
   have M6:=Lib.hid (LH.next (more := [x.hd,x.bl.1,(x.ws.length:Int),(x.ls.length:Int)].flatMap encN) MX hbb (by omega) (by rw [hl1,hl2];exact l6))
   have K6:=l6.whole MX.lays.laid KX (by decide) (by decide)
   have hs6:=l6.left.size
   have k2:=K6.cell 2
   have k3:=K6.cell 3
   have hbd2:(pre++(H.obs.take j).flatMap encO ++ [x.hd,x.bl.1,(x.ws.length:Int),(x.ls.length:Int)].flatMap encN).length≤65616:=by
    rw [List.length_append,flat_len encN_length];simp only [List.length_cons,List.length_nil];omega
   clear R5 l6 MX KX
   go_wp2_with fail
   refine Calls.mono (ints_arg c1 r1 (M6.out.arg.mono (by omega)) hbe hbb M6.out.lays.laid (by omega) (by have:=hD.2.2.2.1;omega) (by rw [List.length_append];omega)) ?_
   rintro e w7 ⟨v7,rfl,l7⟩
   have M7:=Lib.hid (M6.out.next hbb (by omega) l7)
   have K7:=l7.whole M6.out.lays.laid K6 (by decide) (by decide)
   have hs7:=l7.left.size
   have k3:=K7.cell 3
   have k4:=K7.cell 4
   have hbd3:(pre++(H.obs.take j).flatMap encO ++ [x.hd,x.bl.1,(x.ws.length:Int),(x.ls.length:Int)].flatMap encN++x.ws.flatMap encI).length≤66000:=by
    rw [List.length_append,flat_len encI_length];have:=hD.2.2.2.1;omega
   clear l7 M6 K6 k2
   go_wp2_with fail
   refine Calls.mono (numbers_arg c2 r2 (M7.out.arg.mono (by omega)) hbe hbb (fun y hy=>hD.2.2.2.2.2.2 y hy) M7.out.lays.laid (by omega) (by have:=hD.2.2.2.2.1;omega) (by rw [List.length_append];omega)) ?_
   rintro e w8 ⟨v8,rfl,l8⟩
   have M8:=Lib.hid (M7.out.next hbb (by omega) l8)
   have hs8:=l8.left.size
   clear l8 M7 K7 k3 k4
   go_wp2
   go_roundw
   case rel =>
    refine ⟨j+1,v8,by omega,by go_num,?_⟩
    have:=M8.out
    rw [Htk.out,encO_parts]
    simpa [List.append_assoc] using this
   case measure=>simp [intOf];omega
  ·obtain rfl:j=n:=by omega
   have hf:=HM.out.lays
   rw [List.take_of_length_le (by omega), ← Hfin.out] at hf
   have Hf:=Lib.hid hf
   clear hf
   go_wp2
   first | go_end0 | refine bodyPost_ret (results_none rfl _ _ _) rfl ?_
   exact ⟨v',rfl,Hf.out⟩
end Go.Proofs.YtcodpnbemdflcaaGreatDoor
namespace Go.Proofs.YtcodpnbemdflcaaGreatDoor
open Go.RowKit
def PutHP (w:World) (H:Hp) (e:Ending) (w':World):Prop :=
 Below w.heap.size w w'∧((RightH H ∧ ∃ v,e = .returned (.tuple #[v, .int .i64 0])∧Own 5 w' w.heap.size v (encH H))∨(¬ RightH H∧e = .returned (.tuple #[.slice none 0 0, .int .i64 60])))
def IntsH (H:Hp):Prop := ∀ x ∈ H.obs, ∀ n ∈ x.ws,IsInt n
set_option maxHeartbeats 2000000 in
theorem putHeap_any (s:HSl) (H:Hp) (w:World) (h:RdH w s H) (hS:SmallH H) (hT:Tab w) (hI:IntsH H) :
  Calls Tryz.prog 116 #[hval H s] w (PutHP w H):=by
 have B0:=(Below.refl w.heap.size w).alloc (Nat.le_refl _) (.cells (hcs H s).toArray 28)
 have K0:=Whole.new w (hcs H s).toArray 28
 have R:=check_heap s H _ (h.below B0) hS (hT.below B0)
 have Hh:=Lib.hid h
 by_cases hR:RightH H
 ·rw [chkH_yes hR] at R
  have k:ImH H:=⟨hR,h.tp,hI⟩
  have HL:=Lib.hid (fun (v:Value) (b:Nat) (W:World) (bW:Below w.heap.size w W) (hb:w.heap.size≤b) (L:Laid W b w.heap.size v [])=>laidHeap_any s H w b w.heap.size v [] W h bW (Nat.le_refl _) k L hb bW.size (by simp))
  have Hk:=Lib.hid k
  clear h hS hT hI k hR
  obtain ⟨A,n,c,F,m,d⟩:=s
  simp only [hval,hcs] at *
  go_enter Tryz.func116,Tryz.ntmps116
  go_wp2_with fail
  generalize w.alloc (.cells _ 28)=W at R B0 K0 ⊢
  refine Calls.mono R ?_
  rintro e w1 ⟨rfl,b1⟩
  have B1:=B0.trans (b1.mono B0.size)
  have K1:=K0.below b1
  have L1:Laid (w1.alloc (.cells #[.slice none 0 0] 153)) w1.heap.size w.heap.size (.slice none 0 0) []:=⟨Whole.new w1 _ _,Own.nil⟩
  have B2:=B1.alloc B1.size (.cells #[.slice none 0 0] 153)
  have R2:=HL.out _ _ _ B2 B1.size L1
  rw [List.nil_append] at R2
  have c0:=K1.cell 0
  have c1:=K1.cell 1
  have c2:=K1.cell 2
  have c3:=K1.cell 3
  have c4:=K1.cell 4
  have c5:=K1.cell 5
  have c6:=K1.cell 6
  have c7:=K1.cell 7
  have hlt:=K1.lt
  have Hs1:=Lib.hid B1.size
  clear R HL
  go_wp2_with fail
  refine Calls.mono R2 ?_
  rintro e w3 ⟨v3,rfl,l3⟩
  obtain ⟨X,hX⟩ : ∃ X,X=encH H:=⟨_,rfl⟩
  rw [← hX] at l3
  have hbel:=B2.trans (l3.below L1 Hs1.out B2.size)
  obtain ⟨A2,cc,rfl,_,_,_⟩:=l3.laid.own.shape
  have b0:=l3.laid.box.cell 0
  have Hl:=Lib.hid l3
  have HX:=Lib.hid hX
  generalize X.length=nX at *
  clear l3 hX L1 R2 c0 c1 c2 c3 c4 c5 c6 c7
  go_wp2
  go_ret2
  exact ⟨hbel, .inl ⟨Hk.out.right,_,rfl,by rw [← HX.out];exact Hl.out.laid.own⟩⟩
 ·rw [chkH_no hR] at R
  have HR:=Lib.hid hR
  clear h hS hT hI hR
  obtain ⟨A,n,c,F,m,d⟩:=s
  simp only [hval,hcs] at *
  go_enter Tryz.func116,Tryz.ntmps116
  go_wp2_with fail
  generalize w.alloc (.cells _ 28)=W at R B0 K0 ⊢
  refine Calls.mono R ?_
  rintro e w1 ⟨rfl,b1⟩
  have B1:=B0.trans (b1.mono B0.size)
  clear R K0
  go_wp2
  go_ret2
  exact ⟨B1, .inr ⟨HR.out,rfl⟩⟩
end Go.Proofs.YtcodpnbemdflcaaGreatDoor

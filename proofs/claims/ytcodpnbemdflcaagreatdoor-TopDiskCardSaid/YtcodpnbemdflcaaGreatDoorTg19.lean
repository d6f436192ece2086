/-
  Whether the objects rise, each with a block of its order; whether links lead somewhere: contracts.
  Whether all blocks make up the region, side by side: contract.
-/
import Derived.Test.YtcodpnbemdflcaaGreatDoorTg18
import Derived.Test.YtcodpnbemdflcaaGreatDoorTg12
namespace Go.Proofs.YtcodpnbemdflcaaGreatDoor
open Go.RowKit
def ObsUp (H:Hp) (k:Nat) (z:Int):Prop :=
 0≤z∧((k=0∧z=0) ∨ ∃ y,0 < k∧H.obs[k - 1]? = some y∧y.hd=z)∧(H.obs.take k).Pairwise (fun a b=>a.hd < b.hd) ∧ ∀ x ∈ H.obs.take k,1≤x.hd∧x.hd < H.nx∧Shp x
theorem ObsUp.start (H:Hp):ObsUp H 0 0:=⟨Int.le_refl _, .inl ⟨rfl,rfl⟩,by simp,fun x hx=>by simp at hx⟩
theorem take_at {α:Type} {l:List α} {i k:Nat} (h:i < k):(l.take k)[i]? = l[i]? := by rw [List.getElem?_take,if_pos h]
theorem ObsUp.step {H:Hp} {k:Nat} {z:Int} {x:Ob} (h:ObsUp H k z) (hx:H.obs[k]? = some x) (hz:z < x.hd) (hn:x.hd < H.nx) (hs:Shp x):ObsUp H (k+1) x.hd:=by
 obtain ⟨h0,h1,h2,h3⟩:=h
 refine ⟨by omega, .inr ⟨x,Nat.succ_pos _,hx,rfl⟩,?_,?_⟩
 ·rw [take_snocI hx,List.pairwise_append]
  refine ⟨h2,List.pairwise_singleton _ _,fun a ha b hb => ?_⟩
  rw [List.mem_singleton.1 hb]
  rcases h1 with ⟨rfl,_⟩ | ⟨y,hk,hy,rfl⟩
  ·simp at ha
  ·obtain ⟨j,hj,e⟩:=List.getElem_of_mem ha
   have hj':(H.obs.take k)[j]? = some a:=by rw [List.getElem?_eq_getElem hj,e]
   have hjk:j < k:=by rw [List.length_take] at hj;omega
   rcases Nat.lt_or_ge j (k - 1) with q | q
   ·have:=rise_at h2 hj' ((take_at (by omega:k - 1 < k)).trans hy) q
    omega
   ·obtain rfl:j=k - 1:=by omega
    rw [take_at hjk,hy] at hj'
    injection hj' with hj'
    rw [← hj'];exact hz
 ·intro y hy
  rw [take_snocI hx] at hy
  rcases List.mem_append.1 hy with e | e
  ·exact h3 y e
  ·rw [List.mem_singleton.1 e];exact ⟨by omega,hn,hs⟩
theorem ObsUp.low {H:Hp} {k:Nat} {z:Int} {x:Ob} (h:ObsUp H k z) (hx:H.obs[k]? = some x) (hz:x.hd≤z) : ¬ ObsR H:=fun r=>by
 rcases h.2.1 with ⟨rfl,rfl⟩ | ⟨y,hk,hy,rfl⟩
 ·have:=(r.2.2 x (List.mem_of_getElem? hx)).1;omega
 ·have:=rise_at r.2.1 hy hx (by omega);omega
theorem ObsUp.done {H:Hp} {k:Nat} {z:Int} (h:ObsUp H k z) (hk:H.obs.length≤k) (hn:1≤H.nx∧H.nx≤1000001):ObsR H:=by
 obtain ⟨_,_,h2,h3⟩:=h
 rw [List.take_of_length_le hk] at h2 h3
 exact ⟨hn,h2,h3⟩
instance (H:Hp):Decidable (ObsR H):=by unfold ObsR;infer_instance
def ObsRel (W:World) (H:Hp) (last i:Value) (wr:World):Prop := ∃ (k:Nat) (z:Int),k≤H.obs.length∧i = .int .i64 (k:Int)∧last = .int .i64 z∧ObsUp H k z∧Grew W wr
set_option maxRecDepth 100000 in
set_option maxHeartbeats 2000000 in
theorem objectsRight_any (s:HSl) (H:Hp) (w:World) (h:RdH w s H) (hS:SmallH H) :
  Calls Tryz.prog 38 #[hval H s] w (Says w (.bool (decide (ObsR H)))):=by
 have g1:=(Grew.refl w).alloc (.cells (hcs H s).toArray 28)
 have K1:=Lib.hid (Whole.new w (hcs H s).toArray 28)
 have HO:=Lib.hid (h.obs.below g1.below)
 have hlen:=Lib.hid h.obs.len
 have hS1:=hS.1
 obtain ⟨A,n,c,F,m,d⟩:=s
 obtain ⟨v,hv⟩ : ∃ v,v=decide (ObsR H):=⟨_,rfl⟩
 rw [← hv]
 have HV:=Lib.hid hv
 clear h hv hS
 have hn600:n≤600:=by have:=hlen.out;simp only at this;omega
 clear hS1
 simp only [hval,hcs] at *
 have c1:=K1.out.cell 1
 have c2:=K1.out.cell 2
 simp only [List.getElem?_cons_succ,List.getElem?_cons_zero] at c1 c2
 by_cases q1:H.nx < 1
 ·have d1:decide (H.nx < 1)=true:=decide_eq_true q1
  have Hd:=Lib.hid (show v=false from HV.out.trans (decide_eq_false fun r=>by have:=r.1;omega))
  go_enter Tryz.func38,Tryz.ntmps38
  go_wp2_with fail
  go_ret
  exact ⟨by rw [Hd.out];rfl,g1⟩
 have d1:decide (H.nx < 1)=false:=decide_eq_false q1
 by_cases q2:1000001 < H.nx
 ·have d2:decide (1000001 < H.nx)=true:=decide_eq_true q2
  have Hd:=Lib.hid (show v=false from HV.out.trans (decide_eq_false fun r=>by have:=r.1;omega))
  go_enter Tryz.func38,Tryz.ntmps38
  go_wp2_with fail
  go_ret
  exact ⟨by rw [Hd.out];rfl,g1⟩
 have d2:decide (1000001 < H.nx)=false:=decide_eq_false q2
 have Hnx:=Lib.hid (show 1≤H.nx∧H.nx≤1000001 by omega)
 go_enter Tryz.func38,Tryz.ntmps38
 go_upto_region 5 with (fail)
 clear c1 c2 d1 d2
 have hG:=Lib.hid g1
 generalize hW:w.alloc (.cells _ 28)=W at K1 HO hG ⊢
 have HW:=Lib.hid hW
 clear hW g1
 go_loopw [3,17] (ObsRel W H) (fun _ i _=>n - (intOf i).toNat)
 case atStart=>exact ⟨0,0,Nat.zero_le _,rfl,rfl,ObsUp.start H,Grew.refl _⟩
 case round =>
  obtain ⟨k,z,hk,rfl,rfl,hup,gr⟩:=hrel
  have Hup:=Lib.hid hup
  have KW:=K1.out.below gr.below
  have hkn:k≤n:=by have:=hlen.out;omega
  clear hup hk
  by_cases hlt:k < n
  ·obtain ⟨b',off,x,rfl,hbl,hx,A1,n1,f1,B1,m1,d1,h0,h1,h2,h3,h4,r5,r6⟩:=HO.out.get hlt
   have z0:=(gr.below.cell (p:=⟨b',off+k*5,none⟩) hbl).trans h0
   have z1:=(gr.below.cell (p:=⟨b',off+k*5+1,none⟩) hbl).trans h1
   have z2:=(gr.below.cell (p:=⟨b',off+k*5+2,none⟩) hbl).trans h2
   have z3:=(gr.below.cell (p:=⟨b',off+k*5+3,none⟩) hbl).trans h3
   have z4:=(gr.below.cell (p:=⟨b',off+k*5+4,none⟩) hbl).trans h4
   have hki:(k:Int) < (n:Int):=by omega
   have S:=fun W=>blockFits_any x A1 B1 n1 f1 m1 d1 W r5.len r6.len
   have Hx:=Lib.hid hx
   clear h0 h1 h2 h3 h4 r5 r6 hx
   go_upto_region 7 with (fail)
   have g3:=(Grew.refl wr).alloc (.cells #[.int .i64 x.hd, .int .i64 x.bl.1, .int .i64 x.bl.2, .slice A1 n1 f1, .slice B1 m1 d1] 60)
   have Kx:=Whole.new wr #[.int .i64 x.hd, .int .i64 x.bl.1, .int .i64 x.bl.2, .slice A1 n1 f1, .slice B1 m1 d1] 60
   obtain ⟨kx,hkx⟩ : ∃ kx,kx=wr.heap.size:=⟨_,rfl⟩
   rw [← hkx] at Kx ⊢
   clear hkx z0 z1 z2 z3 z4
   generalize wr.alloc (.cells _ 60)=w3 at g3 Kx ⊢
   have KH:=KW.below g3.below
   have G3:=Lib.hid (gr.trans g3)
   have y0:=Kx.cell 0
   have y1:=Kx.cell 1
   have y2:=Kx.cell 2
   have y3:=Kx.cell 3
   have y4:=Kx.cell 4
   have u2:=KH.cell 2
   simp only [List.getElem?_cons_succ,List.getElem?_cons_zero] at y0 y1 y2 y3 y4 u2
   have KX:=Lib.hid Kx
   clear KW KH gr g3 Kx
   by_cases a1:x.hd≤z
   ·have d1:decide (x.hd≤z)=true:=decide_eq_true a1
    have Hd:=Lib.hid (show v=false from HV.out.trans (decide_eq_false (Hup.out.low Hx.out a1)))
    go_wp2_with fail
    go_ret
    exact ⟨by rw [Hd.out];rfl,hG.out.trans G3.out⟩
   have d1:decide (x.hd≤z)=false:=decide_eq_false a1
   by_cases a2:H.nx≤x.hd
   ·have d2:decide (H.nx≤x.hd)=true:=decide_eq_true a2
    have Hd:=Lib.hid (show v=false from HV.out.trans (decide_eq_false fun r=>by have:=(r.2.2 x (List.mem_of_getElem? Hx.out)).2.1;omega))
    go_wp2_with fail
    go_ret
    exact ⟨by rw [Hd.out];rfl,hG.out.trans G3.out⟩
   have d2:decide (H.nx≤x.hd)=false:=decide_eq_false a2
   have Ha:=Lib.hid (show z < x.hd∧x.hd < H.nx by omega)
   by_cases a3:Shp x
   ·rw [decide_eq_true a3] at S
    have Hs:=Lib.hid (Hup.out.step Hx.out Ha.out.1 Ha.out.2 a3)
    clear a3
    go_wp2_with (go_at_call 75;refine (S _).mono ?_;rintro e w4 ⟨rfl,g4⟩;have e0:=(KX.out.below g4.below).cell 0;simp only [List.getElem?_cons_zero] at e0)
    go_roundw
    case rel=>exact ⟨k+1,x.hd,by have:=hlen.out;omega,by go_num,rfl,Hs.out,G3.out.trans g4⟩
    case measure=>simp [intOf];omega
   ·rw [decide_eq_false a3] at S
    have Hd:=Lib.hid (show v=false from HV.out.trans (decide_eq_false fun r=>a3 (r.2.2 x (List.mem_of_getElem? Hx.out)).2.2))
    clear a3
    go_wp2_with (go_at_call 75;refine (S _).mono ?_;rintro e w4 ⟨rfl,g4⟩)
    go_ret
    exact ⟨by rw [Hd.out];rfl,hG.out.trans (G3.out.trans g4)⟩
  ·obtain rfl:k=n:=by omega
   have Hd:=Lib.hid (show v=true from HV.out.trans (decide_eq_true (Hup.out.done (by have:=hlen.out;omega) Hnx.out)))
   go_wp2_with fail
   go_ret
   exact ⟨by rw [Hd.out];rfl,hG.out.trans gr⟩
set_option maxHeartbeats 1000000 in
theorem freeRight_any (s:HSl) (H:Hp) (w:World) (h:RdH w s H) (hS:SmallH H) (hT:Tab w) :
  Calls Tryz.prog 39 #[hval H s] w (Tells w (.bool (decide (Right H.od H.fr)))):=by
 have g1:=(Grew.refl w).alloc (.cells (hcs H s).toArray 28)
 have K1:=Lib.hid (Whole.new w (hcs H s).toArray 28)
 have S:=check_any H.od s.F s.m s.d H.fr _ (h.fr.below g1.below) (by have:=h.fr.len;have:=hS.2.1;omega) (hT.below g1.below)
 obtain ⟨A,n,c,F,m,d⟩:=s
 clear h hS hT
 simp only [hval,hcs] at *
 have c0:=K1.out.cell 0
 have c7:=K1.out.cell 7
 simp only [List.getElem?_cons_succ,List.getElem?_cons_zero] at c0 c7
 have hsz:=g1.below.size
 by_cases hR:Right H.od H.fr
 ·rw [chkE_yes hR] at S
  rw [decide_eq_true hR]
  have Hb:=Lib.hid g1.below
  clear hR g1
  go_enter Tryz.func39,Tryz.ntmps39
  go_wp2_with (go_at_call 76;refine S.mono ?_;rintro e w1 ⟨rfl,b1⟩)
  go_ret
  exact ⟨rfl,Hb.out.trans (b1.mono hsz)⟩
 ·rw [chkE_no hR] at S
  rw [decide_eq_false hR]
  have Hb:=Lib.hid g1.below
  clear hR g1
  go_enter Tryz.func39,Tryz.ntmps39
  go_wp2_with (go_at_call 76;refine S.mono ?_;rintro e w1 ⟨rfl,b1⟩)
  go_ret
  exact ⟨rfl,Hb.out.trans (b1.mono hsz)⟩
end Go.Proofs.YtcodpnbemdflcaaGreatDoor
namespace Go.Proofs.YtcodpnbemdflcaaGreatDoor
open Go.RowKit Go.Sort
set_option maxHeartbeats 1000000 in
theorem cmpFill_any (x y:Blk) (W:World):Calls Tryz.prog 78 #[.agg #[.int .i64 x.1, .int .i64 x.2], .agg #[.int .i64 y.1, .int .i64 y.2]] W fun e w'=>e = .returned (.int .i64 (cmpAt x y)) ∧ ∃ q os',w'=grow (W.drewN q) os':=by
 have hcon:=fun W'=>AnyG.cmp_Compare_int Tryz.cmpI x.1 y.1 W'
 change ∀ W',Calls Tryz.prog 79 _ _ _ at hcon
 unfold cmpAt
 generalize Lib.compareInt x.1 y.1=r at hcon ⊢
 go_enter Tryz.func78,Tryz.ntmps78
 go_wp2_with (go_at_call 79;refine (hcon _).mono ?_;rintro e w' ⟨rfl,rfl⟩)
 go_ret
 exact ⟨rfl,0,_,by rw [alloc_eq_grow,alloc_eq_grow,grow_grow];rfl⟩
def RisesB (base:Nat) (v:Value) (l:List Blk) (w:World) (e:Ending) (w':World):Prop :=
 e = .returned (.tuple #[]) ∧ ∃ l',l'.Perm l∧l'.Pairwise (fun a b=>a.1≤b.1)∧OwnB 57 w' base v l'∧w.grownBy w' v.ownBlock
set_option maxHeartbeats 1000000 in
theorem sortFill_any (base:Nat) (v:Value) (l:List Blk) (w:World) (h:OwnB 57 w base v l) (hl:l.length≤2000) :
  Calls Tryz.prog 77 #[v, .func (.func 78) #[] #[]] w (RisesB base v l w):=by
 obtain ⟨n,hn⟩ : ∃ n,n=l.length:=⟨_,rfl⟩
 have eg : ∀ args w,(callFunc 78 args).run Tryz.prog w = .ok (.enter 78 args) w:=enters_of Tryz.func78 (by kernel_rfl) rfl
 by_cases h0:n=0
 ·obtain ⟨A,c,rfl,_⟩:=h.shape hn.symm
  subst h0
  obtain rfl:l = []:=List.eq_nil_of_length_eq_zero hn.symm
  have hcon:=AnyF.slices_SortFunc_none Tryz.sortB A c (.func (.func 78) #[] #[]) w
  change Calls Tryz.prog 77 _ _ _ at hcon
  exact hcon.mono fun e w' q=>⟨q.1, [],List.Perm.refl _,List.Pairwise.nil,by rw [q.2];exact h,by rw [q.2];exact grown_refl _ _⟩
 ·obtain ⟨g,cap,rfl,_,hg,_,_⟩:=h.form hn.symm (by omega)
  have hcon:=AnyQ.slices_SortFunc Tryz.sortB 2 Tryz.isAgg57 Tryz.sizeOf57 enc2 (fun _=>rfl) (fun x v hv=>by simp [enc2] at hv;rcases hv with rfl | rfl <;> rfl) cmpAt swoAt 78 #[] g 0 cap l.toArray w eg
   (fun _ _ _ _ x y=>cmpFill_any x y _) (holds_own h hn.symm) hg (by simp;omega)
  change Calls Tryz.prog 77 _ _ _ at hcon
  rw [List.size_toArray, ← hn] at hcon
  refine hcon.mono fun e w' q => ?_
  obtain ⟨rfl,d',m,os,hp,hs,rfl⟩:=q
  obtain ⟨p1,_,p3⟩:=hp
  have hsz:d'.size=n:=by rw [p1,List.size_toArray,hn]
  have e1:(d'.extract 0 n).toList=d'.toList:=by rw [← hsz,Array.extract_size]
  have e2:(l.toArray.extract 0 n).toList=l:=by rw [hn, ← List.size_toArray,Array.extract_size]
  rw [e1,e2] at p3
  have hlen:d'.toList.length=n:=by rw [p3.length_eq,hn]
  refine ⟨rfl,d'.toList,p3,?_,?_,?_⟩
  ·rw [List.pairwise_iff_getElem]
   intro i j hi hj hij
   have:=hs i j (Nat.zero_le _) hij (by omega)
   rw [ltAt] at this
   simp only [Array.length_toList] at hi hj
   rw [getElem!_pos d' j hj,getElem!_pos d' i hi] at this
   simp only [Array.getElem_toList]
   have:=of_decide_eq_false this
   omega
  ·have:=own_sorted (m:=m) (os:=os) h hn.symm hlen
   simpa using this
  ·exact grown_sorted d'
def FbRel (w:World) (H:Hp) (cs:List Value) (v i:Value) (wr:World):Prop :=
 ∃ k:Nat,k≤H.obs.length∧i = .int .i64 (k:Int)∧OwnB 57 wr (w.heap.size+1) v (H.fr++(H.obs.take k).map Ob.bl)∧Whole wr w.heap.size 28 cs∧Below w.heap.size w wr
def EndRel (W:World) (m:List Blk) (z i:Value) (wr:World):Prop :=
 ∃ k:Nat,k≤m.length∧i = .int .i64 (k:Int)∧z = .int .i64 (sumL (m.take k))∧contig 0 (m.take k)∧Grew W wr
def FillPost (w:World) (H:Hp) (e:Ending) (w':World):Prop :=
 ∃ (v:Bool) (m:List Blk),m.Perm (blks H)∧m.Pairwise (fun a b=>a.1≤b.1)∧(v=true ↔ contig 0 m∧sumL m=sz H.od)∧e = .returned (.bool v)∧Below w.heap.size w w'
theorem blks_ord {H:Hp} (ho:ObsR H) (hf:Right H.od H.fr) {b:Blk} (hb:b ∈ blks H):0≤b.2∧b.2≤8:=by
 unfold blks at hb
 rcases List.mem_append.1 hb with e | e
 ·have h1:=hf.may e;have h2:=hf.1.2;exact ⟨h1.1,by have:=h1.2.1;omega⟩
 ·obtain ⟨x,hx,rfl⟩:=List.mem_map.1 e
  obtain ⟨_,_,s1,s2,_⟩:=ho.2.2 x hx
  have:=needI_bd x.ws.length x.ls.length
  omega
theorem sumL_le (m:List Blk) (h : ∀ b ∈ m,0≤b.2∧b.2≤8):sumL m≤256*m.length:=by
 induction m with
 | nil=>simp [sumL]
 | cons b t ih =>
  have h1:=ih fun c hc=>h c (List.mem_cons_of_mem _ hc)
  have h2:=sz_le256 (h b (List.mem_cons_self ..)).1 (h b (List.mem_cons_self ..)).2
  rw [sumL_cons,List.length_cons]
  omega
set_option maxRecDepth 100000 in
set_option maxHeartbeats 4000000 in
theorem blocksFill_any (s:HSl) (H:Hp) (w:World) (h:RdH w s H) (hS:SmallH H) (ho:ObsR H) (hf:Right H.od H.fr) :
  Calls Tryz.prog 40 #[hval H s] w (FillPost w H):=by
 have g1:=(Grew.refl w).alloc (.cells (hcs H s).toArray 28)
 have hz0:(w.alloc (.cells (hcs H s).toArray 28)).heap.size=w.heap.size+1:=by simp
 have K1:=Lib.hid (Whole.new w (hcs H s).toArray 28)
 have HO:=Lib.hid h.obs
 have hlen:=Lib.hid h.obs.len
 have hfl:=Lib.hid h.fr.len
 have hS1:=hS.1
 have hS2:=hS.2.1
 have S:=cloneB_any H.fr s.F s.m s.d _ (h.fr.below g1.below) (by have:=hfl.out;omega)
 have hod:=Lib.hid hf.1
 have Hord:=Lib.hid fun b (hb:b ∈ blks H)=>blks_ord ho hf hb
 obtain ⟨A,n,c,F,m,d⟩:=s
 clear h hS ho hf
 simp only [hval,hcs] at *
 have c7:=K1.out.cell 7
 simp only [List.getElem?_cons_succ,List.getElem?_cons_zero] at c7
 go_enter Tryz.func40,Tryz.ntmps40
 go_upto_region 2 with (go_at_call 42;refine S.mono ?_;rintro e w2 ⟨v2,rfl,o2,b2⟩)
 have B2:=Lib.hid (g1.below.trans (b2.mono g1.below.size))
 rw [hz0] at o2
 have O2:=Lib.hid o2
 have K2:=Lib.hid (K1.out.below b2)
 have c1:=K2.out.cell 1
 simp only [List.getElem?_cons_succ,List.getElem?_cons_zero] at c1
 clear S c7 o2 b2 K1 g1 hz0
 go_upto_region 3 with (fail)
 clear c1
 go_loopw [3,15] (FbRel w H [.int .i64 H.od, .slice A n c, .int .i64 H.nx, .int .i64 (tget H 0), .int .i64 (tget H 1), .int .i64 (tget H 2), .int .i64 (tget H 3), .slice F m d]) (fun _ i _=>n - (intOf i).toNat)
 case atStart=>exact ⟨0,Nat.zero_le _,rfl,by simpa using O2.out,K2.out,B2.out⟩
 case round =>
  clear K2 B2 O2
  obtain ⟨k,hk,rfl,ow,KW,bw⟩:=hrel
  have hkn:k≤n:=by have:=hlen.out;omega
  by_cases hlt:k < n
  ·obtain ⟨b',off,x,rfl,hbl,hx,A1,n1,f1,B1,m1,d1,h0,h1,h2,h3,h4,r5,r6⟩:=HO.out.get hlt
   have z0:=(bw.cell (p:=⟨b',off+k*5,none⟩) hbl).trans h0
   have z1:=(bw.cell (p:=⟨b',off+k*5+1,none⟩) hbl).trans h1
   have z2:=(bw.cell (p:=⟨b',off+k*5+2,none⟩) hbl).trans h2
   have z3:=(bw.cell (p:=⟨b',off+k*5+3,none⟩) hbl).trans h3
   have z4:=(bw.cell (p:=⟨b',off+k*5+4,none⟩) hbl).trans h4
   have hki:(k:Int) < (n:Int):=by omega
   have Htk:=Lib.hid (show (H.obs.take (k+1)).map Ob.bl=(H.obs.take k).map Ob.bl ++ [x.bl] by rw [take_snocI hx,List.map_append];rfl)
   have hll:(H.fr++(H.obs.take k).map Ob.bl).length≤1200:=by rw [List.length_append,List.length_map,List.length_take];omega
   clear h0 h1 h2 h3 h4 r5 r6 hx
   go_upto_region 5 with (fail)
   have g3:=(Grew.refl wr).alloc (.cells #[.int .i64 x.hd, .int .i64 x.bl.1, .int .i64 x.bl.2, .slice A1 n1 f1, .slice B1 m1 d1] 60)
   have Kx:=Whole.new wr #[.int .i64 x.hd, .int .i64 x.bl.1, .int .i64 x.bl.2, .slice A1 n1 f1, .slice B1 m1 d1] 60
   obtain ⟨kx,hkx⟩ : ∃ kx,kx=wr.heap.size:=⟨_,rfl⟩
   rw [← hkx] at Kx ⊢
   clear hkx z0 z1 z2 z3 z4
   generalize wr.alloc (.cells _ 60)=w3 at g3 Kx ⊢
   have KW3:=KW.below g3.below
   have ow3:=ow.below g3.below
   have bw3:=bw.trans (g3.below.mono bw.size)
   have y1:=Kx.cell 1
   have y2:=Kx.cell 2
   simp only [List.getElem?_cons_succ,List.getElem?_cons_zero] at y1 y2
   have hsz1:w.heap.size+1≤w3.heap.size:=KW3.lt
   obtain ⟨v5,w5,hap,happ⟩:=run_appB_one (P:=Tryz.prog) (w.heap.size+1) 26 26 57 Tryz.underlying26 Tryz.infoBlk2 rfl _ _ ow3 x.bl (by omega) hsz1
   have K5:=Lib.hid (KW3.keep (happ.2.1.block _ KW3.lt fun e=>by have:=(ow3.lt _ e.symm).1;omega))
   have B5:=Lib.hid (happ.below ow3 (by omega) (by omega) bw3)
   have O5:=Lib.hid happ.1
   clear hll ow KW happ bw KW3 ow3 bw3 Kx g3
   go_wp2_with (at_builtin;refine wpList_append_run hap rfl _ _ rfl rfl rfl rfl ?_)
   go_roundw
   case rel=>exact ⟨k+1,by have:=hlen.out;omega,by go_num,by rw [Htk.out, ← List.append_assoc];exact O5.out,K5.out,B5.out⟩
   case measure=>simp [intOf];omega
  ·obtain rfl:k=n:=by omega
   rw [List.take_of_length_le (by have:=hlen.out;omega)] at ow
   have hbl:H.fr++H.obs.map Ob.bl=blks H:=rfl
   rw [hbl] at ow
   have S:=sortFill_any _ _ _ _ ow (by unfold blks;rw [List.length_append,List.length_map];omega)
   have OW:=Lib.hid ow
   have KWH:=Lib.hid KW
   have BW:=Lib.hid bw
   clear ow KW bw hbl
   go_upto_region 8 with (go_at_call 77;refine S.mono ?_;rintro e w4 ⟨rfl,ms,hp,hs,o4,gb⟩)
   clear S
   have KS:=KWH.out.keep (gb.block _ KWH.out.lt fun e=>by have:=(OW.out.lt _ e.symm).1;omega)
   have BS:Below w.heap.size w w4:=BW.out.grown gb BW.out.size fun j hj=>by have:=(OW.out.lt j hj).1;omega
   have hml:ms.length≤1200:=by rw [hp.length_eq];unfold blks;rw [List.length_append,List.length_map];omega
   obtain ⟨q,hq⟩ : ∃ q,q=ms.length:=⟨_,rfl⟩
   obtain ⟨AS,cS,hv,rS⟩:=o4.rdn hq.symm
   have Hp:=Lib.hid hp
   have Hs:=Lib.hid hs
   have RS:=Lib.hid rS
   have KSH:=Lib.hid KS
   have BSH:=Lib.hid BS
   have Hml:=Lib.hid (show ms.length=q from hq.symm)
   have hq1200:q≤1200:=by omega
   subst hv
   clear hp hs rS o4 gb KS BS OW KWH BW hq hml
   go_upto_region 10 with (fail)
   go_loopw [6,29] (EndRel w4 ms) (fun _ i _=>q - (intOf i).toNat)
   case atStart=>exact ⟨0,Nat.zero_le _,rfl,by simp [sumL],by simp [contig],Grew.refl _⟩
   case round =>
    obtain ⟨j,hj,rfl,rfl,hct,gr⟩:=hrel
    have hjq:j≤q:=by have:=Hml.out;omega
    have Hct:=Lib.hid hct
    have hse:=Lib.hid (sumL_le (ms.take j) (fun b hb=>Hord.out b (Hp.out.mem_iff.1 (List.mem_of_mem_take hb))))
    have hsg:=sumL_ge (ms.take j)
    have hs1:0≤sumL (ms.take j)∧sumL (ms.take j)≤400000:=by have:=hse.out;rw [List.length_take] at this;omega
    obtain ⟨z,hz⟩ : ∃ z,z=sumL (ms.take j):=⟨_,rfl⟩
    rw [← hz] at hs1 ⊢
    have HZ:=Lib.hid hz
    clear hct hz hj hsg
    by_cases hlt:j < q
    ·obtain ⟨b',off,x,rfl,hbl,hx,h0,h1⟩:=RS.out.cell hlt
     have z0:=(gr.below.cell (p:=⟨b',off+j*2,none⟩) hbl).trans h0
     have z1:=(gr.below.cell (p:=⟨b',off+j*2+1,none⟩) hbl).trans h1
     have hji:(j:Int) < (q:Int):=by omega
     have hxo:=Hord.out x (Hp.out.mem_iff.1 (List.mem_of_getElem? hx))
     have W1:=fun W=>words_any x.2 W
     rw [wordsI_in hxo.1 hxo.2] at W1
     have hzx:=sz_pos x.2
     have hzx2:=sz_le256 hxo.1 hxo.2
     have Hst:=Lib.hid (show sumL (ms.take (j+1))=z+sz x.2 by rw [take_snocI hx,sumL_append,HZ.out];simp [sumL])
     have Hct1:=Lib.hid (show contig 0 (ms.take (j+1)) ↔ x.1=z by
      rw [take_snocI hx,contig_append,contig_one,Int.zero_add, ← HZ.out]
      exact ⟨fun r=>r.2,fun r=>⟨Hct.out,r⟩⟩)
     obtain ⟨zz,hzz⟩ : ∃ zz,zz=sz x.2:=⟨_,rfl⟩
     rw [← hzz] at W1 hzx hzx2 Hst
     have gx:=(Grew.refl wr).alloc (.cells #[.int .i64 x.1, .int .i64 x.2] 57)
     have Kx:=Whole.new wr #[.int .i64 x.1, .int .i64 x.2] 57
     have Gx:=Lib.hid (gr.trans gx)
     have y0:=Kx.cell 0
     have y1:=Kx.cell 1
     simp only [List.getElem?_cons_succ,List.getElem?_cons_zero] at y0 y1
     clear h0 h1 hx hxo hzz Kx gx gr
     by_cases he:x.1=z
     ·have he0:(x.1 != z)=false:=by simp [he]
      have He:=Lib.hid he
      clear he
      go_wp2_with (go_at_call 16;refine (W1 _).mono ?_;rintro e w5 ⟨rfl,rfl⟩)
      go_roundw
      case rel=>exact ⟨j+1,by have:=Hml.out;omega,by go_num,by rw [Hst.out],Hct1.out.2 He.out,Gx.out⟩
      case measure=>simp [intOf];omega
     ·have he0:(x.1 != z)=true:=by simp [he]
      have Hn:=Lib.hid (show (false=true ↔ contig 0 ms∧sumL ms=sz H.od) from ⟨fun r=>(by cases r),fun r=>by
       have h1:=r.1
       rw [← List.take_append_drop (j+1) ms,contig_append] at h1
       exact absurd (Hct1.out.1 h1.1) he⟩)
      clear he
      go_wp2_with fail
      go_ret
      exact ⟨false,ms,Hp.out,Hs.out,Hn.out,rfl,BSH.out.trans (Gx.out.below.mono BSH.out.size)⟩
    ·obtain rfl:j=q:=by omega
     have KF:=KSH.out.below gr.below
     have f0:=KF.cell 0
     simp only [List.getElem?_cons_zero] at f0
     have W1:=fun W=>words_any H.od W
     rw [wordsI_in (by have:=hod.out;omega) hod.out.2] at W1
     have Hn:=Lib.hid (show (decide (z=sz H.od)=true ↔ contig 0 ms∧sumL ms=sz H.od) by
      have h1:=Hct.out
      have h2:=HZ.out
      rw [List.take_of_length_le (by have:=Hml.out;omega)] at h1 h2
      rw [decide_eq_true_iff, ← h2]
      exact ⟨fun r=>⟨h1,r⟩,fun r=>r.2⟩)
     obtain ⟨y,hy⟩ : ∃ y,y=sz H.od:=⟨_,rfl⟩
     rw [← hy] at W1
     have HY:=Lib.hid hy
     clear hy KF
     go_wp2_with (go_at_call 16;refine (W1 _).mono ?_;rintro e w5 ⟨rfl,rfl⟩)
     go_ret
     refine ⟨decide (z=sz H.od),ms,Hp.out,Hs.out,Hn.out,?_,BSH.out.trans (gr.below.mono BSH.out.size)⟩
     rw [← HY.out]
     first | rfl | (simp;done)
end Go.Proofs.YtcodpnbemdflcaaGreatDoor

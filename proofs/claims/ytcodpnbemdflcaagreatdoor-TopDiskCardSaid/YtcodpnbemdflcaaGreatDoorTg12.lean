/-
  Blocks are put into the order in which free ones are told: contract of rising.
  All that waits is joined: a row of the call's own, a queue, boxes beside them; contract of join.
  Giving a block back, by the program: contract of Give.
  Taking a block, by the program: contract of Take.
-/
import Derived.Test.YtcodpnbemdflcaaGreatDoorTg7
import Derived.Test.YtcodpnbemdflcaaGreatDoorTg8
import Derived.Shelf.SlSortCmp.WholeK
import Derived.Shelf.SlSortCmp.NoneTotal
import Derived.Test.YtcodpnbemdflcaaGreatDoorTg10
import Derived.Test.YtcodpnbemdflcaaGreatDoorTg11
namespace Go.Proofs.YtcodpnbemdflcaaGreatDoor
open Go.RowKit Go.Sort
theorem own_sorted {U:TypeId} {w:World} {base g cap n m:Nat} {os:Array Obj} {l l':List Blk} (h:OwnB U w base (.slice (some ⟨g,0,none⟩) n cap) l) (hl:l.length=n) (hl':l'.length=n) :
  OwnB U (sortWorldK enc2 2 w g 0 m l'.toArray os) base (.slice (some ⟨g,0,none⟩) n cap) l':=by
 obtain ⟨h1,h2⟩:=h
 rcases h2 with ⟨h2,_⟩ | ⟨g',cap',cur,hv,hb,hh,hc,hm,hs,ht⟩
 ·cases h2
 ·injection hv with e1 e2 e3
  injection e1 with e1
  injection e1 with e1
  subst e1
  subst e3
  have hg:g < w.heap.size:=(Array.getElem?_eq_some_iff.1 hh).1
  refine ⟨by rw [bcs_length], .inr ⟨g,cap,putCells id 0 (flatK enc2 2 l'.toArray) cur,by rw [hl'],hb,?_,by rw [hl'];omega,hm,by simp [putCells,hs],?_⟩⟩
  ·unfold sortWorldK putRowK putRow
   rw [heap_grow_old _ _ (by simpa [mapBlock,Sort.ahead] using hg)]
   have:(Sort.ahead w m).heap=w.heap:=rfl
   simp only [mapBlock,this]
   rw [Array.getElem?_modify,if_pos rfl,hh]
   rfl
  ·apply List.ext_getElem?
   intro i
   rw [List.getElem?_take]
   by_cases hi:i < l'.length*2
   ·rw [if_pos hi]
    have hb':l'[i / 2]? = some (l'[i / 2]'(by omega)):=List.getElem?_eq_getElem (by omega)
    obtain ⟨b,hbe⟩ : ∃ b,b=l'[i / 2]'(by omega):=⟨_,rfl⟩
    rw [← hbe] at hb'
    obtain ⟨q1,q2⟩:=bcs_get hb'
    have hcur:i < cur.size:=by omega
    have hf:=get_flatK enc2 2 l'.toArray i (by simpa using hi)
    have hb2:l'.toArray[i / 2]! = b:=by simp [hb']
    rw [hb2] at hf
    have e:(putCells id 0 (flatK enc2 2 l'.toArray) cur).toList[i]? = some (enc2 b)[i % 2]! := by
     rw [← hf]
     simp [putCells,hcur,hi]
    rw [e]
    rcases Nat.mod_two_eq_zero_or_one i with hm2 | hm2
    ·rw [hm2,show i=i / 2*2 by omega,q1]
     rfl
    ·rw [hm2,show i=i / 2*2+1 by omega,q2]
     rfl
   ·rw [if_neg hi,List.getElem?_eq_none (by rw [bcs_length];omega)]
def cmpAt (x y:Blk):Int:=Lib.compareInt x.1 y.1
theorem ltAt (x y:Blk):ltOf cmpAt x y=decide (x.1 < y.1):=by
 unfold ltOf cmpAt Lib.compareInt
 by_cases h1:x.1 < y.1
 ·simp [h1]
 ·by_cases h2:y.1 < x.1 <;> simp [h1,h2]
theorem swoAt:SWO (ltOf cmpAt) where
 irrefl x:=by rw [ltAt];simp
 trans x y z h1 h2:=by rw [ltAt] at *;simp at *;omega
 ntrans x y z h1 h2:=by rw [ltAt] at *;simp at *;omega
set_option maxHeartbeats 1000000 in
theorem cmp_any (x y:Blk) (W:World):Calls Tryz.prog 179 #[.agg #[.int .i64 x.1, .int .i64 x.2], .agg #[.int .i64 y.1, .int .i64 y.2]] W fun e w'=>e = .returned (.int .i64 (cmpAt x y)) ∧ ∃ q os',w'=grow (W.drewN q) os':=by
 have hcon:=fun W'=>AnyG.cmp_Compare_int Tryz.cmpI x.1 y.1 W'
 change ∀ W',Calls Tryz.prog 79 _ _ _ at hcon
 unfold cmpAt
 generalize Lib.compareInt x.1 y.1=r at hcon ⊢
 go_enter Tryz.func179,Tryz.ntmps179
 go_wp2_with (go_at_call 79;refine (hcon _).mono ?_;rintro e w' ⟨rfl,rfl⟩)
 go_ret
 exact ⟨rfl,0,_,by rw [alloc_eq_grow,alloc_eq_grow,grow_grow];rfl⟩
theorem holds_own {U:TypeId} {w:World} {base g cap n:Nat} {l:List Blk} (h:OwnB U w base (.slice (some ⟨g,0,none⟩) n cap) l) (hl:l.length=n):HoldsK enc2 2 w g 0 l.toArray:=by
 intro j hj
 rw [size_flatK] at hj
 have hb':l[j / 2]? = some (l[j / 2]'(by simp at hj;omega)):=List.getElem?_eq_getElem (by simp at hj;omega)
 obtain ⟨b,hbe⟩ : ∃ b,b=l[j / 2]'(by simp at hj;omega):=⟨_,rfl⟩
 rw [← hbe] at hb'
 obtain ⟨c0,c1⟩:=h.cell hl hb'
 have hb2:l.toArray[j / 2]! = b:=by simp [hb']
 rw [get_flatK enc2 2 l.toArray j hj,hb2,Nat.zero_add]
 refine ⟨?_,h.free hl j⟩
 rcases Nat.mod_two_eq_zero_or_one j with hm2 | hm2
 ·rw [hm2,show j=j / 2*2 by omega,c0];rfl
 ·rw [hm2,show j=j / 2*2+1 by omega,c1];rfl
def Rises (base:Nat) (v:Value) (l:List Blk) (w:World) (e:Ending) (w':World):Prop :=
 ∃ l',e = .returned v∧l'.Perm l∧l'.Pairwise (fun a b=>a.1≤b.1)∧OwnB 57 w' base v l'∧w.grownBy w' v.ownBlock
theorem grown_sorted {w:World} {g m:Nat} {os:Array Obj} (d:Array Blk):w.grownBy (sortWorldK enc2 2 w g 0 m d os) (some g):=by
 refine ⟨rfl,rfl,rfl,by simp [sortWorldK,putRowK,putRow,mapBlock,Sort.ahead],fun k hk hne => ?_⟩
 unfold sortWorldK putRowK
 rw [heap_grow_old _ _ (by simpa [putRow,mapBlock,Sort.ahead] using hk)]
 have:g≠k:=fun e=>hne (by rw [e])
 simp [putRow,mapBlock,Sort.ahead,Array.getElem?_modify,this]
set_option maxHeartbeats 1000000 in
theorem rising_any (base:Nat) (v:Value) (l:List Blk) (w:World) (h:OwnB 57 w base v l) (hl:l.length≤1000) :
  Calls Tryz.prog 129 #[v] w (Rises base v l w):=by
 obtain ⟨n,hn⟩ : ∃ n,n=l.length:=⟨_,rfl⟩
 have eg : ∀ args w,(callFunc 179 args).run Tryz.prog w = .ok (.enter 179 args) w:=enters_of Tryz.func179 (by kernel_rfl) rfl
 by_cases h0:n=0
 ·obtain ⟨A,c,rfl,_⟩:=h.shape hn.symm
  subst h0
  obtain rfl:l = []:=List.eq_nil_of_length_eq_zero hn.symm
  have hcon:=AnyF.slices_SortFunc_none Tryz.sortB A c (.func (.func 179) #[] #[]) w
  change Calls Tryz.prog 77 _ _ _ at hcon
  have H:=Lib.hid h
  clear h hn
  go_enter Tryz.func129,Tryz.ntmps129
  go_wp2_with (go_at_call 77;refine hcon.mono ?_;rintro e w' ⟨rfl,rfl⟩)
  go_ret
  exact ⟨[],rfl,List.Perm.refl _,List.Pairwise.nil,H.out,grown_refl _ _⟩
 ·obtain ⟨g,cap,rfl,_,hg,_,_⟩:=h.form hn.symm (by omega)
  have hcon:=AnyQ.slices_SortFunc Tryz.sortB 2 Tryz.isAgg57 Tryz.sizeOf57 enc2 (fun _=>rfl) (fun x v hv=>by simp [enc2] at hv;rcases hv with rfl | rfl <;> rfl) cmpAt swoAt 179 #[] g 0 cap l.toArray w eg
   (fun _ _ _ _ x y=>cmp_any x y _) (holds_own h hn.symm) hg (by simp;omega)
  change Calls Tryz.prog 77 _ _ _ at hcon
  rw [List.size_toArray, ← hn] at hcon
  have H:=Lib.hid h
  have HN:=Lib.hid hn
  clear h hn
  go_enter Tryz.func129,Tryz.ntmps129
  go_wp2_with (go_at_call 77;refine hcon.mono ?_;rintro e w' ⟨rfl,d',m,os,hp,hs,hw'⟩;have HW:=Lib.hid hw';clear hw')
  go_ret
  obtain ⟨p1,_,p3⟩:=hp
  have hsz:d'.size=n:=by rw [p1,List.size_toArray,HN.out]
  have e1:(d'.extract 0 n).toList=d'.toList:=by rw [← hsz,Array.extract_size]
  have e2:(l.toArray.extract 0 n).toList=l:=by rw [HN.out, ← List.size_toArray,Array.extract_size]
  rw [e1,e2] at p3
  have hlen:d'.toList.length=n:=by rw [p3.length_eq,HN.out]
  refine ⟨d'.toList,rfl,p3,?_,?_,?_⟩
  ·rw [List.pairwise_iff_getElem]
   intro i j hi hj hij
   have:=hs i j (Nat.zero_le _) hij (by omega)
   rw [ltAt] at this
   simp only [Array.length_toList] at hi hj
   rw [getElem!_pos d' j hj,getElem!_pos d' i hi] at this
   simp only [Array.getElem_toList]
   have:=of_decide_eq_false this
   omega
  ·rw [HW.out]
   have:=own_sorted (m:=m) (os:=os) H.out HN.out.symm hlen
   simpa using this
  ·rw [HW.out]
   exact grown_sorted d'
end Go.Proofs.YtcodpnbemdflcaaGreatDoor
namespace Go.Proofs.YtcodpnbemdflcaaGreatDoor
open Go.RowKit
structure QS (w:World) (base lo:Nat) (rs:List Nat) (g:Nat) (H:List Blk) (v:Value) (J:List Blk) (vJ:Value) (wr:World):Prop where
 q:QAt wr base g v H
 heap:HeapFrom H H.length 0
 row:OwnB 57 wr lo vJ J
 rowg:vJ.ownBlock≠some g
 apart : ∀ k,v.ownBlock=some k→vJ.ownBlock≠some k
 boxes : ∀ r ∈ rs,r < wr.heap.size∧base≤r∧r≠g∧v.ownBlock≠some r∧vJ.ownBlock≠some r
 bel:Below base w wr
 lo1:base≤lo
 lo2:lo≤wr.heap.size
section
variable {w wr w2:World} {base lo g:Nat} {rs:List Nat} {H H' J J':List Blk} {v v' vJ vJ':Value}
theorem QS.small (h:QS w base lo rs g H v J vJ wr):base≤wr.heap.size:=Nat.le_trans h.lo1 h.lo2
theorem QS.below (h:QS w base lo rs g H v J vJ wr) (b:Below wr.heap.size wr w2):QS w base lo rs g H v J vJ w2 :=
 ⟨h.q.below b,h.heap,h.row.below b,h.rowg,h.apart,fun r hr=>⟨Nat.lt_of_lt_of_le (h.boxes r hr).1 b.size,(h.boxes r hr).2⟩,h.bel.trans (b.mono h.small),h.lo1,Nat.le_trans h.lo2 b.size⟩
theorem QS.add (h:QS w base lo rs g H v J vJ wr) (b:Below wr.heap.size wr w2) {r:Nat} (hr:wr.heap.size≤r) (hr2:r < w2.heap.size):QS w base lo (r :: rs) g H v J vJ w2:=by
 have k:=h.below b
 refine ⟨k.q,k.heap,k.row,k.rowg,k.apart,fun s hs => ?_,k.bel,k.lo1,k.lo2⟩
 rcases List.mem_cons.1 hs with e | e
 ·subst e
  exact ⟨hr2,Nat.le_trans h.small hr,by have:=h.q.at_.lt;omega,fun e=>by have:=(h.q.own.lt _ e).2;omega,fun e=>by have:=(h.row.lt _ e).2;omega⟩
 ·exact k.boxes s e
theorem QS.drop {r:Nat} (h:QS w base lo (r :: rs) g H v J vJ wr):QS w base lo rs g H v J vJ wr :=
 ⟨h.q,h.heap,h.row,h.rowg,h.apart,fun s hs=>h.boxes s (List.mem_cons_of_mem _ hs),h.bel,h.lo1,h.lo2⟩
theorem QS.waits (h:QS w base lo rs g H v J vJ wr) (k:Waits wr base g v H' v' w2) (hh:HeapFrom H' H'.length 0):QS w base lo rs g H' v' J vJ w2 ∧ ∀ r ∈ rs,w2.heap[r]? = wr.heap[r]? := by
 have hg:=h.q.at_.lt
 have hne : ∀ r,r < wr.heap.size→v.ownBlock≠some r→v'.ownBlock≠some r:=fun r hr hv e=>by
  rcases k.2.own with e2 | ⟨s,e2,hs⟩
  ·rw [e2] at e;exact hv e
  ·rw [e2] at e;injection e with e;omega
 refine ⟨⟨k.1,hh,h.row.keep fun s hs=>k.2.block s (h.row.lt s hs).2 (fun e=>h.rowg (by rw [hs,e])) (fun e=>h.apart s e hs),h.rowg,fun s hs e => ?_,fun r hr => ?_,h.bel.trans (k.2.below h.q (Nat.le_refl _)),h.lo1,Nat.le_trans h.lo2 k.2.size⟩,fun r hr => ?_⟩
 ·exact hne s (h.row.lt s e).2 (fun e2=>h.apart s e2 e) hs
 ·obtain ⟨h1,h2,h3,h4,h5⟩:=h.boxes r hr
  exact ⟨Nat.lt_of_lt_of_le h1 k.2.size,h2,h3,hne r h1 h4,h5⟩
 ·obtain ⟨h1,h2,h3,h4,h5⟩:=h.boxes r hr
  exact k.2.block r h1 h3 h4
theorem QS.app (h:QS w base lo rs g H v J vJ wr) (k:AppB 57 wr lo vJ J' vJ' w2):QS w base lo rs g H v J' vJ' w2 ∧ ∀ r ∈ rs,w2.heap[r]? = wr.heap[r]? := by
 obtain ⟨k1,k2,k3⟩:=k
 have hg:=h.q.at_.lt
 have hne : ∀ r,r < wr.heap.size→vJ.ownBlock≠some r→vJ'.ownBlock≠some r:=fun r hr hv e=>by
  rcases k3 with e2 | ⟨s,e2,hs⟩
  ·rw [e2] at e;exact hv e
  ·rw [e2] at e;injection e with e;omega
 refine ⟨⟨⟨h.q.at_.keep (k2.block g hg (fun e=>h.rowg e.symm)),h.q.own.grown k2 (fun s hs e=>h.apart s hs e.symm),h.q.lo⟩,h.heap,k1,hne g hg h.rowg,fun s hs=>hne s (h.q.own.lt s hs).2 (h.apart s hs),fun r hr => ?_,h.bel.grown k2 h.small fun s hs=>Nat.le_trans h.lo1 (h.row.lt s hs).1,h.lo1,Nat.le_trans h.lo2 k2.size⟩,fun r hr => ?_⟩
 ·obtain ⟨h1,h2,h3,h4,h5⟩:=h.boxes r hr
  exact ⟨Nat.lt_of_lt_of_le h1 k2.size,h2,h3,h4,hne r h1 h5⟩
 ·obtain ⟨h1,h2,h3,h4,h5⟩:=h.boxes r hr
  exact k2.block r h1 (fun e=>h5 e.symm)
theorem QS.store {r:Nat} (h:QS w base lo rs g H v J vJ wr) (hr:r ∈ rs) (k:wr.grownBy w2 (some r)):QS w base lo rs g H v J vJ w2 ∧ ∀ s ∈ rs,s≠r→w2.heap[s]? = wr.heap[s]? := by
 obtain ⟨h1,h2,h3,h4,h5⟩:=h.boxes r hr
 refine ⟨⟨⟨h.q.at_.grown k (fun e=>h3 e.symm),h.q.own.grown k (fun s hs e=>h4 (by rw [hs,e])),h.q.lo⟩,h.heap,h.row.grown k (fun s hs e=>h5 (by rw [hs,e])),h.rowg,h.apart,fun s hs=>⟨Nat.lt_of_lt_of_le (h.boxes s hs).1 k.size,(h.boxes s hs).2⟩,below_grown h.bel k h.small h2,h.lo1,Nat.le_trans h.lo2 k.size⟩,fun s hs hne => ?_⟩
 exact k.block s (h.boxes s hs).1 (fun e=>hne (by injection e))
theorem QS.cut {ga n c:Nat} (h:QS w base lo rs g H v J (.slice (some ⟨ga,0,none⟩) n c) wr) (hn:J.length=n) {k:Nat} (hk:k≤n):QS w base lo rs g H v (J.take k) (.slice (some ⟨ga,0,none⟩) k c) wr :=
 ⟨h.q,h.heap,h.row.cut hn hk,h.rowg,h.apart,h.boxes,h.bel,h.lo1,h.lo2⟩
end
def JnRel (w:World) (base lo r0 g:Nat) (r:Int) (lf:List Blk) (b0:Blk) (gg:Nat) (v:Value) (wr:World):Prop :=
 ∃ J H vq,2*H.length+J.length≤gg∧J.length+H.length≤300∧QS w base lo [r0] g H vq J v wr∧Whole wr r0 201 (qcs g)∧JnInv r lf b0 J H
def JnPost (w:World) (base lo:Nat) (r:Int) (lf:List Blk) (b0:Blk) (e:Ending) (w':World):Prop :=
 ∃ J v,e = .returned v∧OwnB 57 w' lo v J∧JnInv r lf b0 J []∧J.length≤300∧Below base w w'
set_option maxRecDepth 100000 in
set_option maxHeartbeats 4000000 in
theorem join_any (base g:Nat) (v:Value) (H:List Blk) (r:Int) (lf:List Blk) (b0:Blk) (w:World) (h:QAt w base g v H) (hh:HeapFrom H H.length 0) (hl:H.length≤300) (hb:base≤w.heap.size) (inv:JnInv r lf b0 [] H) :
  Calls Tryz.prog 135 #[qv g] w (JnPost w base w.heap.size r lf b0):=by
 have hB0:=(Below.refl w.heap.size w).alloc (Nat.le_refl _) (.cells (qcs g).toArray 201)
 have K0:Whole (w.alloc (.cells (qcs g).toArray 201)) w.heap.size 201 (qcs g):=Whole.new w (qcs g).toArray 201
 have q0:QS w base w.heap.size [] g H v [] (.slice none 0 0) w:=⟨h,hh,OwnB.nil,(fun e=>by cases e),(fun _ _ e=>by cases e),(fun _ hr=>by cases hr),Below.refl _ _,hb,Nat.le_refl _⟩
 have q1:=q0.add hB0 (Nat.le_refl _) (by simp)
 have hz:w.heap.size=w.heap.size:=rfl
 have mixed:=mixedP
 have hm:=noGuard
 have hr8:=inv.reg.2
 clear h hh hB0 q0
 unfold qv qcs at *
 go_enter Tryz.func135,Tryz.ntmps135
 go_upto_region 2 with fail
 go_loopg [3] (2*H.length) (fun gg v wr=>JnRel w base w.heap.size w.heap.size g r lf b0 gg v wr)
 case atStart=>exact ⟨[],H,_,by simp,by simpa using hl,q1,K0,inv⟩
 case round =>
  clear q1 K0 inv
  obtain ⟨J,H,vq,hg,hN,qs,K,inv⟩:=hrel
  unfold qcs at K
  have hr0:=(qs.boxes w.heap.size (List.mem_singleton.2 rfl)).1
  have c0:=K.cell 0
  have c1:=K.cell 1
  have c2:=K.cell 2
  have c3:=K.cell 3
  have c4:=K.cell 4
  have c5:=K.cell 5
  have S1:=fun W (b:Below wr.heap.size wr W)=>qLen_any base g vq H W (qs.q.below b)
  unfold qv qcs at S1
  by_cases h0:H.length=0
  ·obtain rfl:H = []:=List.eq_nil_of_length_eq_zero h0
   have HI:=Lib.hid inv
   have HQ:=Lib.hid qs
   clear inv qs
   go_wp2_with (go_at_call 182;refine (S1 _ (Below.refl _ _)).mono ?_;rintro e w1 ⟨rfl,g1⟩)
   go_ret
   exact ⟨J,_,rfl,HQ.out.row.below g1.below,HI.out,by simp at hN;omega,HQ.out.bel.trans (g1.below.mono HQ.out.small)⟩
  ·obtain ⟨n,hn⟩ : ∃ n,H.length=n+1:=⟨H.length - 1,by omega⟩
   have S2:=fun W (b:Below wr.heap.size wr W)=>qnext_any base g vq H n W (qs.q.below b) hn (by omega) qs.heap
   obtain ⟨⟨x,o⟩,hx⟩ : ∃ x,x=nth H 0:=⟨_,rfl⟩
   rw [← hx] at S2
   unfold qv qcs bval enc2 at S2
   simp only at S2
   have kd:decide (0 < (H.length:Int))=true:=by simp;omega
   have kd2:0 < H.length:=by omega
   obtain ⟨A2,ca,rfl,r2⟩:=qs.row.rd
   obtain ⟨m,hm2⟩ : ∃ m,m=J.length:=⟨_,rfl⟩
   rw [← hm2] at r2 qs hg hN ⊢
   obtain ⟨li,hli⟩ : ∃ li,li=(m:Int) - 1:=⟨_,rfl⟩
   have e5:IntKind.i64.wrap ((m:Int) - 1)=li:=by rw [IntKind.wrap_i64];omega
   have Hli:=Lib.hid hli
   clear hli
   have HQ:=Lib.hid qs
   have HK:=Lib.hid K
   have HI:=Lib.hid inv
   have HJn:=Lib.hid hm2
   clear qs inv K hx h0 hm2
   go_upto_region 5 with (first | (go_at_call 182;refine (S1 _ (Below.refl _ _)).mono ?_;rintro e w1 ⟨rfl,g1⟩;have K1:=HK.out.below g1.below;have d0:=K1.cell 0;have d1:=K1.cell 1;have d2:=K1.cell 2;have d3:=K1.cell 3;have d4:=K1.cell 4;have d5:=K1.cell 5;clear c0 c1 c2 c3 c4 c5) | (go_at_call 127;refine (S2 _ g1.below).mono ?_;rintro e w2 ⟨rfl,hp⟩))
   obtain ⟨H',vq',hperm,hmin,hheap,hwt⟩:=hp
   have qsa:=(HQ.out.below g1.below).waits hwt hheap
   have K2:=(HK.out.below g1.below).keep (qsa.2 _ (List.mem_singleton.2 rfl))
   have hB3:=(Below.refl w2.heap.size w2).alloc (Nat.le_refl _) (.cells #[.int .i64 x, .int .i64 o] 57)
   have B3:=Box2.new w2 (x,o) 57
   have qs3:=qsa.1.below hB3
   have K3:=K2.below hB3
   clear hwt qsa K2 S1 S2 d0 d1 d2 d3 d4 d5 kd kd2 e5 hB3
   obtain ⟨kb,hkb⟩ : ∃ k,k=w2.heap.size:=⟨_,rfl⟩
   rw [← hkb] at B3 ⊢
   clear hkb
   generalize w2.alloc (.cells #[.int .i64 x, .int .i64 o] 57)=w3 at B3 qs3 K3 ⊢
   have hbH:(x,o) ∈ H:=hperm.mem_iff.1 (List.mem_cons_self ..)
   have hbm:=may_box hr8 (HI.out.may _ (List.mem_append_right _ hbH))
   have hlen:=hperm.length_eq
   simp only [List.length_cons] at hlen hbm
   have HP:=Lib.hid hperm
   have HM:=Lib.hid hmin
   by_cases hm0:m=0
   ·have hd:decide (li < 0)=true:=by have:=Hli.out;simp;omega
    obtain rfl:J = []:=List.eq_nil_of_length_eq_zero (by have:=HJn.out;omega)
    have Hm0:=Lib.hid hm0
    clear hm0
    have hpush:=Lib.hid (HI.out.push HP.out HM.out (fun z hz=>by cases hz))
    refine wp_region_quiet_grown mixed (by kernel_rfl) ?_
    repeat (go_big_quiet_step (fail))
    refine wpQuiet_nil ?_
    intro _ hw'
    obtain ⟨⟨nq,osq⟩,hw''⟩:=hw'
    subst hw''
    have G4:=(Grew.refl w3).grow nq osq
    generalize Go.Sort.grow (w3.drewN nq) osq=w4 at G4 ⊢
    have B4:=B3.below G4.below
    have i0:=B4.c0
    have i1:=B4.c1
    have qs4:=qs3.below G4.below
    have K4:=K3.below G4.below
    obtain ⟨v5,w5,hap,happ⟩:=run_appB_one (P:=Tryz.prog) w.heap.size 26 26 57 Tryz.underlying26 Tryz.infoBlk2 rfl _ _ qs4.row (x,o) (by simp) qs4.lo2
    have qs5:=qs4.app happ
    have K5:=K4.keep (qs5.2 _ (List.mem_singleton.2 rfl))
    have Hq5:=Lib.hid qs5.1
    simp only at hap i0 i1
    clear qs4 K4 qs5 happ qs3 K3 B3 B4 hd
    go_wp2_with (at_builtin;refine wpList_append_run hap rfl _ _ rfl rfl rfl rfl ?_)
    go_roundg (2*H'.length+1)
    case measure=>have:=Hm0.out;omega
    case rel=>exact ⟨_,H',vq',by first | (simp;done) | (simp;omega),by first | (simp;done) | (simp;omega),Hq5.out,K5,hpush.out⟩
   ·have hm2:=HJn.out
    obtain ⟨q,hq⟩ : ∃ q,m=q+1:=⟨m - 1,by omega⟩
    obtain rfl:li=(q:Int):=by have:=Hli.out;omega
    have hd:decide ((q:Int) < 0)=false:=by simp
    obtain ⟨ga,cap,hv,hga,hgl,_⟩:=qs3.row.form hm2.symm (by omega)
    injection hv with hv1 hv2 hv3
    subst hv1
    subst hv3
    obtain ⟨⟨z0,z1⟩,hz0⟩ : ∃ z,z=nth J q:=⟨_,rfl⟩
    have hz:J[q]? = some (z0,z1):=by rw [hz0];exact nth_get (by omega)
    obtain ⟨a0,a1⟩:=qs3.row.cell hm2.symm hz
    have Hz:=Lib.hid hz
    have y0:=cell_grown (a:=⟨ga,q*2,none⟩) hgl a0
    have y1:=cell_grown (a:=⟨ga,q*2+1,none⟩) hgl a1
    have v0:=B3.g0
    have v1:=B3.g1
    have hqm:q < m:=by omega
    have hqi:(q:Int) < (m:Int):=by omega
    have T:=fun W=>twin_any (x,o) W hbm.1 hbm.2
    obtain ⟨⟨t0,t1⟩,hte⟩ : ∃ t,t=twin (x,o):=⟨_,rfl⟩
    rw [← hte] at T
    unfold bval enc2 at T
    simp only at T v0 v1 y0 y1
    have Hte:=Lib.hid hte
    have qn:=run_neq_blk z0 z1 t0 t1
    have hJl:J=J.take q ++ [(z0,z1)]:=by rw [← take_snocB hz,List.take_of_length_le (by omega)]
    have HJ:=Lib.hid hJl
    have Hq:=Lib.hid hq
    clear hq hte hz hz0 hJl hm0 a0 a1 hm2
    cases he:sameB (z0,z1) (t0,t1) with
    | false =>
     rw [he] at qn
     have hpush:=Lib.hid (HI.out.push HP.out HM.out (fun z hz=>by
      rw [HJ.out,List.getLast?_concat] at hz
      injection hz with hz
      rw [← hz, ← Hte.out]
      intro e
      rw [(sameB_iff _ _).2 e] at he
      cases he))
     refine wp_region_quiet_grown mixed (by kernel_rfl) ?_
     repeat (go_big_quiet_step ((go_at_call 128;exact calls_grown_says (T _))))
     refine wpQuiet_nil ?_
     intro _ hw'
     obtain ⟨⟨nq,osq⟩,hw''⟩:=hw'
     subst hw''
     have G4:=(Grew.refl w3).grow nq osq
     generalize Go.Sort.grow (w3.drewN nq) osq=w4 at G4 ⊢
     have B4:=B3.below G4.below
     have i0:=B4.c0
     have i1:=B4.c1
     have qs4:=qs3.below G4.below
     have K4:=K3.below G4.below
     obtain ⟨v5,w5,hap,happ⟩:=run_appB_one (P:=Tryz.prog) w.heap.size 26 26 57 Tryz.underlying26 Tryz.infoBlk2 rfl _ _ qs4.row (x,o) (by have:=HJn.out;omega) qs4.lo2
     have qs5:=qs4.app happ
     have K5:=K4.keep (qs5.2 _ (List.mem_singleton.2 rfl))
     have Hq5:=Lib.hid qs5.1
     simp only at hap i0 i1
     clear qs4 K4 qs5 happ qs3 K3 B3 B4 hd y0 y1 v0 v1 T qn
     go_wp2_with (at_builtin;refine wpList_append_run hap rfl _ _ rfl rfl rfl rfl ?_)
     go_roundg (2*H'.length+(m+1))
     case measure=>omega
     case rel=>exact ⟨_,H',vq',by have:=HJn.out;simp;omega,by have:=HJn.out;simp;omega,Hq5.out,K5,hpush.out⟩
    | true =>
     rw [he] at qn
     have hzt:((z0,z1):Blk)=(t0,t1):=(sameB_iff _ _).1 he
     refine wp_region_quiet_grown mixed (by kernel_rfl) ?_
     repeat (go_big_quiet_step ((go_at_call 128;exact calls_grown_says (T _))))
     refine wpQuiet_nil ?_
     intro _ hw'
     obtain ⟨⟨nq,osq⟩,hw''⟩:=hw'
     subst hw''
     have G4:=(Grew.refl w3).grow nq osq
     have hgl4:=Nat.lt_of_lt_of_le hgl G4.below.size
     generalize Go.Sort.grow (w3.drewN nq) osq=w4 at G4 hgl4 ⊢
     have B4:=B3.below G4.below
     have i0:=B4.c0
     have i1:=B4.c1
     have qs4:=qs3.below G4.below
     have K4:=K3.below G4.below
     unfold qcs at K4
     have c0:=K4.cell 0
     have c1:=K4.cell 1
     have c2:=K4.cell 2
     have c3:=K4.cell 3
     have c4:=K4.cell 4
     have c5:=K4.cell 5
     obtain ⟨a0,a1⟩:=qs4.row.cell HJn.out.symm Hz.out
     have hwo:IntKind.i64.wrap (o+1)=o+1:=by rw [IntKind.wrap_i64];omega
     have S3:=fun W (b:Below w4.heap.size w4 W)=>qadd_any base g vq' H' (z0,o+1) W (qs4.q.below b) (by omega) (Nat.le_trans qs4.small b.size) hheap
     unfold qv qcs bval enc2 at S3
     simp only at S3 i0 i1 a0 a1
     have HQ4:=Lib.hid qs4
     have HK4:=Lib.hid K4
     have hqc:q≤ca:=by omega
     clear qs4 K4 qs3 K3 B3 B4 hd y0 y1 v0 v1 T qn
     go_wp2_with fail
     go_region_with (go_at_call 134;refine (S3 _ (Below.refl _ _).drew).mono ?_;rintro e w6 ⟨rfl,H2,vq2,hp2,hheap2,hwt2⟩)
     all_goals
      have qsd:=(HQ4.out.below (Below.refl _ _).drew).waits hwt2 hheap2
      have K6:=Lib.hid ((HK4.out.below (Below.refl _ _).drew).keep (qsd.2 _ (List.mem_singleton.2 rfl)))
      have qs7:=Lib.hid (qsd.1.cut (k:=q) HJn.out.symm (by omega))
      obtain ⟨hm1,hm2',hm3⟩:=JnInv.merge (J:=J.take q) (z:=(z0,z1)) (by rw [← HJ.out];exact HI.out) HP.out HM.out (hzt.trans Hte.out) hp2
      have hmg:=Lib.hid hm1
      have hln:=Lib.hid hp2.length_eq
      clear qsd hwt2 hheap2 hm1 hm2' hm3 hp2 c0 c1 c2 c3 c4 c5 i0 i1 a0 a1
      go_wp2
      go_roundg (2*H2.length+q)
      case measure=>have:=hln.out;simp at this;omega
      case rel=>exact ⟨_,H2,vq2,by have:=HJn.out;simp;omega,by have:=HJn.out;have:=hln.out;simp at *;omega,qs7.out,K6.out,hmg.out⟩
end Go.Proofs.YtcodpnbemdflcaaGreatDoor
namespace Go.Proofs.YtcodpnbemdflcaaGreatDoor
open Go.RowKit
set_option maxHeartbeats 1000000 in
theorem give_right (r:Int) (A:Option Addr) (n c:Nat) (l:List Blk) (b:Blk) (w:World) (h:RdS w A n l) (hn:n≤1000) (hT:Tab w) (hR : ¬ Right r l) :
  Calls Tryz.prog 87 #[.int .i64 r, .slice A n c,bval b] w (GivePost w r l b):=by
 have B0:=(Below.refl w.heap.size w).alloc (Nat.le_refl _) (.cells #[.int .i64 b.1, .int .i64 b.2] 57)
 have S:Calls Tryz.prog 120 #[.int .i64 r, .slice A n c] (w.alloc (.cells #[.int .i64 b.1, .int .i64 b.2] 57)) (NoWords (w.alloc (.cells #[.int .i64 b.1, .int .i64 b.2] 57))):=(freeWords_any r A n c l _ (h.below B0) hn (hT.below B0)).mono fun _ _ h=>h.elim (fun h=>absurd h.1 hR) (fun h=>h.2)
 have hres:=Lib.hid (show GiveRes r l b [] 1 from .inl ⟨hR,rfl,rfl⟩)
 have HB:=Lib.hid B0
 clear h B0 hT
 obtain ⟨y,p⟩:=b
 unfold bval enc2
 simp only at *
 go_enter Tryz.func87,Tryz.ntmps87
 go_wp2_with (go_at_call 120;refine S.mono ?_;rintro e w2 ⟨rfl,b1⟩)
 go_ret2
 exact GivePost.nil hres.out (HB.out.trans (b1.mono HB.out.size))
theorem words_of {r:Int} {A:Option Addr} {n c:Nat} {l:List Blk} {W:World} (hR:Right r l) (h:RdS W A n l) (hn:n≤1000) (hT:Tab W) :
  Calls Tryz.prog 120 #[.int .i64 r, .slice A n c] W (MapOf W r l) :=
 (freeWords_any r A n c l _ h hn hT).mono fun _ _ h=>h.elim (fun h=>h.2) (fun h=>absurd hR h.1)
set_option maxHeartbeats 1000000 in
theorem give_out (r:Int) (A:Option Addr) (n c:Nat) (l:List Blk) (b:Blk) (w:World) (h:RdS w A n l) (hn:n≤1000) (hT:Tab w) (hR:Right r l) (hF : ¬ Fits r l b) :
  Calls Tryz.prog 87 #[.int .i64 r, .slice A n c,bval b] w (GivePost w r l b):=by
 have B0:=(Below.refl w.heap.size w).alloc (Nat.le_refl _) (.cells #[.int .i64 b.1, .int .i64 b.2] 57)
 have B1:=Box2.new w b 57
 have S:=words_of (c:=c) hR (h.below B0) hn (hT.below B0)
 have S2:=fun W=>mayBe_any r b W (by have:=hR.1;omega)
 have hr8:=hR.1.2
 have hres:=Lib.hid (show GiveRes r l b [] 41 from .inr (.inl ⟨hR,hF,rfl,rfl⟩))
 have HB:=Lib.hid B0
 have HT:=Lib.hid hT
 have HRt:=Lib.hid hR
 have HF:=Lib.hid hF
 clear h B0 hT hR hF
 obtain ⟨y,p⟩:=b
 unfold bval enc2 at *
 simp only at *
 go_enter Tryz.func87,Tryz.ntmps87
 go_upto_region 4 with (go_at_call 120;refine S.mono ?_;rintro e w2 ⟨gm,hm,m,rfl,mA,Mp,hg,hh,b1⟩)
 have Bx:=B1.below b1
 have b2:=HB.out.trans (b1.mono HB.out.size)
 have v0:=Bx.c0
 have v1:=Bx.c1
 simp only at v0 v1
 clear S B1 b1
 by_cases hM:May r (y,p)
 ·rw [decide_eq_true hM] at S2
  have S3:=fun W (bb:Below w2.heap.size w2 W)=>allTaken_any gm hm m (y,p) W (mA.below bb) (HT.out.below (b2.trans (bb.mono b2.size)))
  have ht:allTkn m (y,p)=false:=by
   cases ht:allTkn m (y,p) with
   | false=>rfl
   | true=>exact absurd ⟨hM,(Mp.taken (fun a ha=>HRt.out.may ha) hr8 hM).1 ht⟩ HF.out
  rw [ht] at S3
  unfold bval enc2 at S3
  simp only at S3
  clear mA Mp ht hM
  go_wp2_with (first | (go_at_call 132;refine (S2 _).mono ?_;rintro e w3 ⟨rfl,g3⟩;have e0:=(Bx.below g3.below).c0;have e1:=(Bx.below g3.below).c1) | (go_at_call 133;refine (S3 _ g3.below).mono ?_;rintro e w4 ⟨rfl,g4⟩))
  go_ret2
  exact GivePost.nil hres.out (b2.trans ((g3.trans g4).below.mono b2.size))
 ·rw [decide_eq_false hM] at S2
  clear mA Mp hM
  go_wp2_with (go_at_call 132;refine (S2 _).mono ?_;rintro e w3 ⟨rfl,g3⟩)
  go_ret2
  exact GivePost.nil hres.out (b2.trans (g3.below.mono b2.size))
set_option maxRecDepth 100000 in
set_option maxHeartbeats 4000000 in
theorem give_in (r:Int) (A:Option Addr) (n c:Nat) (l:List Blk) (b:Blk) (w:World) (h:RdS w A n l) (hn:n≤1000) (hT:Tab w) (hR:Right r l) (hF:Fits r l b) :
  Calls Tryz.prog 87 #[.int .i64 r, .slice A n c,bval b] w (GivePost w r l b):=by
 have B0:=(Below.refl w.heap.size w).alloc (Nat.le_refl _) (.cells #[.int .i64 b.1, .int .i64 b.2] 57)
 have B1:=Box2.new w b 57
 have S:=words_of (c:=c) hR (h.below B0) hn (hT.below B0)
 have S2:=fun W=>mayBe_any r b W (by have:=hR.1;omega)
 rw [decide_eq_true hF.1] at S2
 have hr8:=hR.1.2
 have HB:=Lib.hid B0
 have HT:=Lib.hid hT
 have HRt:=Lib.hid hR
 have HF:=Lib.hid hF
 have HR:=Lib.hid h
 clear h B0 hT hR hF
 obtain ⟨y,p⟩:=b
 unfold bval enc2 at *
 simp only at *
 go_enter Tryz.func87,Tryz.ntmps87
 go_upto_region 4 with (go_at_call 120;refine S.mono ?_;rintro e w2 ⟨gm,hm,m,rfl,mA,Mp,hg,hh,b1⟩)
 have Bx:=B1.below b1
 have b2:=HB.out.trans (b1.mono HB.out.size)
 have v0:=Bx.c0
 have v1:=Bx.c1
 simp only at v0 v1
 clear S B1 b1
 have S3:=fun W (bb:Below w2.heap.size w2 W)=>allTaken_any gm hm m (y,p) W (mA.below bb) (HT.out.below (b2.trans (bb.mono b2.size)))
 rw [(Mp.taken (fun a ha=>HRt.out.may ha) hr8 HF.out.1).2 HF.out.2] at S3
 unfold bval enc2 at S3
 simp only at S3
 clear mA Mp
 go_upto_region 6 with (first | (go_at_call 132;refine (S2 _).mono ?_;rintro e w3 ⟨rfl,g3⟩;have e0:=(Bx.below g3.below).c0;have e1:=(Bx.below g3.below).c1) | (go_at_call 133;refine (S3 _ g3.below).mono ?_;rintro e w4 ⟨rfl,g4⟩))
 have B4:=Bx.below (g3.trans g4).below
 have b4:=b2.trans ((g3.trans g4).below.mono b2.size)
 have S4:=wait_any A n c l w4 (HR.out.below b4) hn
 clear S2 S3 e0 e1 v0 v1 Bx
 go_upto_region 7 with (go_at_call 126;refine S4.mono ?_;rintro e w5 ⟨g,vq,H,he,qa,hp,hheap,b5⟩;unfold qv qcs mSize mLess mSwap mPush mPop at he;subst he)
 have qs5:QS w4 w4.heap.size w4.heap.size [] g H vq [] (.slice none 0 0) w5:=⟨qa,hheap,OwnB.nil,(fun e=>by cases e),(fun _ _ e=>by cases e),(fun _ hr=>by cases hr),b5,Nat.le_refl _,b5.size⟩
 have hA:=(Below.refl w5.heap.size w5).alloc (Nat.le_refl _) (.cells (qcs g).toArray 201)
 have K6:Whole (w5.alloc (.cells (qcs g).toArray 201)) w5.heap.size 201 (qcs g):=Whole.new w5 (qcs g).toArray 201
 have qs6:=qs5.add hA (Nat.le_refl _) (by simp)
 have B6:=(B4.below b5).below hA
 have hz:w4.heap.size≤w5.heap.size:=b5.size
 clear qs5 qa hA S4
 obtain ⟨kq,hkq⟩ : ∃ k,k=w5.heap.size:=⟨_,rfl⟩
 unfold qcs mSize mLess mSwap mPush mPop at K6
 unfold qcs mSize mLess mSwap mPush mPop at qs6
 unfold qcs mSize mLess mSwap mPush mPop at B6
 rw [← hkq] at K6 qs6 ⊢
 clear hkq
 generalize w5.alloc (.cells _ 201)=w6 at B6 K6 qs6 ⊢
 have c0:=K6.cell 0
 have c1:=K6.cell 1
 have c2:=K6.cell 2
 have c3:=K6.cell 3
 have c4:=K6.cell 4
 have c5:=K6.cell 5
 have v0:=B6.c0
 have v1:=B6.c1
 have hHl:=hp.length_eq
 have hl256:=HRt.out.len256
 have S5:=qadd_any w4.heap.size g vq H (y,p) w6 qs6.q (by omega) qs6.small hheap
 unfold qv qcs bval enc2 mSize mLess mSwap mPush mPop at S5
 simp only at S5 v0 v1
 go_upto_region 8 with (go_at_call 134;refine S5.mono ?_;rintro e w7 ⟨rfl,H2,vq2,hp2,hheap2,hwt2⟩)
 have qs7:=qs6.waits hwt2 hheap2
 have K7:=K6.keep (qs7.2 _ (List.mem_singleton.2 rfl))
 have hHl2:=hp2.length_eq
 simp only [List.length_append,List.length_singleton] at hHl2
 have S6:=join_any w4.heap.size g vq2 H2 r l (y,p) w7 qs7.1.q hheap2 (by omega) qs7.1.small (JnInv.start HRt.out HF.out (hp2.trans (hp.append_right _)))
 clear c0 c1 c2 c3 c4 c5 v0 v1 S5 K6 hwt2
 have c0:=K7.cell 0
 have c1:=K7.cell 1
 have c2:=K7.cell 2
 have c3:=K7.cell 3
 have c4:=K7.cell 4
 have c5:=K7.cell 5
 have b7:=Lib.hid qs7.1.bel
 have h7:=qs7.1.small
 have h4:=b4.size
 unfold qv qcs mSize mLess mSwap mPush mPop at S6
 clear qs7 K7 qs6 B6 B4
 go_wp2_with (first | (go_at_call 135;refine S6.mono ?_;rintro e w8 ⟨J,vJ,rfl,ho,hinv,hJl,bj⟩) | (go_at_call 129;refine (rising_any w7.heap.size vJ J w8 ho (by omega)).mono ?_;rintro e w9 ⟨J',rfl,hp9,hs9,ho9,gb⟩))
 go_ret2
 have b8:=b4.trans ((b7.out.trans bj).mono h4)
 exact ⟨J',0,vJ,rfl, .inr (.inr ⟨HRt.out,HF.out,rfl,hinv.done hp9 hs9⟩),ho9.mono (by omega),b8.grown gb b8.size fun k hk=>by have:=(ho.lt k hk).1;omega⟩
theorem give_any (r:Int) (A:Option Addr) (n c:Nat) (l:List Blk) (b:Blk) (w:World) (h:RdS w A n l) (hn:n≤1000) (hT:Tab w) :
  Calls Tryz.prog 87 #[.int .i64 r, .slice A n c,bval b] w (GivePost w r l b):=by
 by_cases hR:Right r l
 ·by_cases hF:Fits r l b
  ·exact give_in r A n c l b w h hn hT hR hF
  ·exact give_out r A n c l b w h hn hT hR hF
 ·exact give_right r A n c l b w h hn hT hR
end Go.Proofs.YtcodpnbemdflcaaGreatDoor
namespace Go.Proofs.YtcodpnbemdflcaaGreatDoor
open Go.RowKit
theorem ins_perm (b:Blk) : ∀ l:List Blk,(ins b l).Perm (b :: l)
 | []=>List.Perm.refl _
 | c :: t=>by
  unfold ins
  split
  ·exact List.Perm.refl _
  ·exact ((ins_perm b t).cons c).trans (List.Perm.swap ..)
theorem woL_perm {r:Int} {l rest:List Blk} {B:Blk} (h:Right r l) (hp:(B :: rest).Perm l):rest.Perm (woL l B):=by
 have hne:(B :: rest).Pairwise (fun a c=>a.1≠c.1):=(h.rise.imp fun q=>by omega:l.Pairwise (fun a c=>a.1≠c.1)).perm hp.symm (fun q e=>q e.symm)
 have h1:=(List.pairwise_cons.1 hne).1
 have h2:=hp.filter (fun x => !sameB x B)
 have h3:(B :: rest).filter (fun x => !sameB x B)=rest:=by
  rw [List.filter_cons_of_neg (by rw [(sameB_iff B B).2 rfl];simp)]
  refine List.filter_eq_self.2 fun c hc => ?_
  rw [sameB_no (fun e=>h1 c hc (by rw [e]))]
  rfl
 rw [h3] at h2
 exact h2
theorem append_ts {P:Program} (w:World) (t u ty U:TypeId) (ht:P.underlying t=some (.slice U)) (hu:P.underlying u=some (.slice U)) (A:Option Addr) (n c:Nat) (y:Value) :
  (Builtin.append_ #[t,u] ty #[.slice A n c,y]).run P w=(Builtin.append_ #[t,t] ty #[.slice A n c,y]).run P w:=by
 simp [Builtin.append_,run_underlying ht,run_underlying hu]
structure Tk1 (l:List Blk) (t:Int) (b:Blk) (H L:List Blk):Prop where
 perm:((b :: H)++L).Perm l
 small : ∀ c ∈ L,c.2 < t
 first : ∀ c ∈ H,Lq b c
theorem Tk1.next {l H H' L:List Blk} {t:Int} {b b':Blk} (h:Tk1 l t b H L) (hb:b.2 < t) (hp:(b' :: H').Perm H) (hm : ∀ c ∈ H',Lq b' c):Tk1 l t b' H' (L ++ [b]):=by
 refine ⟨?_,fun c hc => ?_,hm⟩
 ·refine List.Perm.trans ?_ h.perm
  refine List.Perm.trans ?_ ((List.Perm.cons b hp).append_right L)
  rw [List.cons_append,List.cons_append,List.cons_append, ← List.append_assoc]
  exact (List.perm_append_singleton b (b' :: (H'++L))).trans (List.Perm.refl _)
 ·rcases List.mem_append.1 hc with e | e
  ·exact h.small c e
  ·rw [List.mem_singleton.1 e];exact hb
theorem Tk1.more {l H L:List Blk} {t:Int} {b:Blk} (h:Tk1 l t b H L) (hb:b.2 < t) (hr:roomB l t=true):0 < H.length:=by
 unfold roomB at hr
 rw [List.any_eq_true] at hr
 obtain ⟨c,hc,ht⟩:=hr
 have ht:=of_decide_eq_true ht
 rcases List.mem_append.1 (h.perm.mem_iff.2 hc) with e | e
 ·rcases List.mem_cons.1 e with e | e
  ·rw [e] at ht;omega
  ·exact List.length_pos_of_mem e
 ·have:=h.small c e;omega
theorem Tk1.best {l H L:List Blk} {t:Int} {b:Blk} (h:Tk1 l t b H L):b ∈ l ∧ ∀ c ∈ l,t≤c.2→Lq b c:=by
 refine ⟨h.perm.mem_iff.1 (by simp),fun c hc ht => ?_⟩
 rcases List.mem_append.1 (h.perm.mem_iff.2 hc) with e | e
 ·rcases List.mem_cons.1 e with e | e
  ·rw [e];exact Lq.refl _
  ·exact h.first c e
 ·have:=h.small c e;omega
def Tk2 (l:List Blk) (B:Blk) (o:Int) (H M:List Blk):Prop := ∃ m,TkInv l B o m∧(M++H).Perm m
theorem Tk2.start {r t:Int} {l H L:List Blk} {B:Blk} (hR:Right r l) (h:Tk1 l t B H L):Tk2 l B B.2 H L :=
 ⟨_,TkInv.start hR,List.perm_append_comm.trans (woL_perm hR h.perm)⟩
theorem Tk2.step {r o:Int} {l H M:List Blk} {B:Blk} (hR:Right r l) (hB:B ∈ l) (ho:0 < o) (hoB:o≤B.2) (h:Tk2 l B o H M):Tk2 l B (o - 1) H (M ++ [(B.1+sz (o - 1),o - 1)]):=by
 obtain ⟨m,h1,h2⟩:=h
 refine ⟨_,TkInv.step hR hB ho hoB h1,?_⟩
 refine List.Perm.trans ?_ (ins_perm _ m).symm
 rw [List.append_assoc]
 exact (List.perm_middle (l₁:=M) (l₂:=H)).trans (h2.cons _)
theorem Tk2.done {l H M m':List Blk} {B:Blk} {t:Int} (hB:B ∈ l) (ht:t≤B.2) (hl : ∀ c ∈ l,t≤c.2→Lq B c) (h:Tk2 l B t H M) (hp:m'.Perm (M++H)) (hs:m'.Pairwise (fun a c=>a.1≤c.1)):Took l t (B.1,t) m':=by
 obtain ⟨m,⟨h1,h2⟩,h3⟩:=h
 have hpm:=hp.trans h3
 have hne:m'.Pairwise (fun a c=>a.1≠c.1):=(h1.imp fun q=>by omega:m.Pairwise (fun a c=>a.1≠c.1)).perm hpm.symm (fun q e=>q e.symm)
 refine ⟨B,hB,ht,hl,rfl,(hs.and hne).imp fun q=>by omega,fun c => ?_⟩
 rw [hpm.mem_iff]
 exact h2 c
end Go.Proofs.YtcodpnbemdflcaaGreatDoor

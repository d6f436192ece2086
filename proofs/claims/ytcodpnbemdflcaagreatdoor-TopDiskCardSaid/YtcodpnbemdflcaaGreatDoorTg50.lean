/-
  The law HeapKeeps, walked.
  The words of blocks that lie apart, in a map: plain mathematics.
  A slice of operations that came in, as a row's frame opens it. Plain lemmas.
  What the law TopRegion leans on: leads, over, grows: contracts.
  A heap that came in, with the bounds of its words.
  A slice of operations that came in: each field a 64-bit integer. Plain lemmas.
  A call of a disk (tumuluslaw07.Op), and a slice of them, as a row's frame opens it. Plain lemmas.
-/
import Derived.Test.YtcodpnbemdflcaaGreatDoorTg26
import Derived.Test.YtcodpnbemdflcaaGreatDoorTg15
import Derived.Test.YtcodpnbemdflcaaGreatDoorTg28
import Derived.Test.YtcodpnbemdflcaaGreatDoorTg21
import Derived.Test.YtcodpnbemdflcaaGreatDoorTg44
import Derived.Test.YtcodpnbemdflcaaGreatDoorTg4
import Derived.Deep.Slices
import Derived.Deep.Grids
import Derived.Lib.SmallJoins
import Derived.ChangeSame
namespace Go.Proofs.YtcodpnbemdflcaaGreatDoor
open Go.RowKit
section
open Go.ChangeShapes Go.WideShapes Go.Deep Go.Joins
variable {H:Type} {enc:TypeId × Value→H} {w:World}
theorem list7 {α:Type} {l:List α} (h:l.length=7) : ∃ a b c d e f g,l = [a,b,c,d,e,f,g]:=by
 match l,h with
 | [a,b,c,d,e,f,g],_=>exact ⟨a,b,c,d,e,f,g,rfl⟩
theorem trod_fields7 {P:Program} {b0:Nat} {sp:Nat→Bool} {hd:Bool} {t:TypeId} {f0 f1 f2 f3 f4 f5 f6:Field} {cs:List Value} {fuel:Nat} {x:DataW H × List MemPlace} (ht:P.underlying t=some (.struct #[f0,f1,f2,f3,f4,f5,f6])) (h:DataW.trod enc P w b0 sp hd fuel t cs=some x) :
  ∃ n y0 y1 y2 y3 y4 y5 y6,cs.length=P.cellsOf t∧DataW.trod enc P w b0 sp hd n f0.type ((cs.drop f0.offset).take (P.cellsOf f0.type))=some y0∧DataW.trod enc P w b0 sp hd n f1.type ((cs.drop f1.offset).take (P.cellsOf f1.type))=some y1∧DataW.trod enc P w b0 sp hd n f2.type ((cs.drop f2.offset).take (P.cellsOf f2.type))=some y2∧DataW.trod enc P w b0 sp hd n f3.type ((cs.drop f3.offset).take (P.cellsOf f3.type))=some y3∧DataW.trod enc P w b0 sp hd n f4.type ((cs.drop f4.offset).take (P.cellsOf f4.type))=some y4∧DataW.trod enc P w b0 sp hd n f5.type ((cs.drop f5.offset).take (P.cellsOf f5.type))=some y5∧DataW.trod enc P w b0 sp hd n f6.type ((cs.drop f6.offset).take (P.cellsOf f6.type))=some y6:=by
 obtain ⟨xs,n,_,_,hlen,hxl,hg⟩:=DataW.trod_struct ht h
 have hxl2:xs.length=7:=hxl
 obtain ⟨y0,y1,y2,y3,y4,y5,y6,rfl⟩:=list7 hxl2
 exact ⟨n,y0,y1,y2,y3,y4,y5,y6,hlen,hg 0 f0 rfl,hg 1 f1 rfl,hg 2 f2 rfl,hg 3 f3 rfl,hg 4 f4 rfl,hg 5 f5 rfl,hg 6 f6 rfl⟩
end
end Go.Proofs.YtcodpnbemdflcaaGreatDoor
namespace Go.Proofs.YtcodpnbemdflcaaGreatDoor
open Go.RowKit
def allB (H:Hp):List Blk:=H.obs.map Ob.bl++H.fr
theorem RightH.all {H:Hp} (k:RightH H):(∀ b ∈ allB H,May H.od b)∧(allB H).Pairwise (fun a b => ¬ Meets b a)∧sumL (allB H)=sz H.od:=by
 refine ⟨fun b hb => ?_,?_,?_⟩
 ·rcases List.mem_append.1 hb with e | e
  ·obtain ⟨x,hx,rfl⟩:=List.mem_map.1 e
   exact (k.ok x hx).2.2.2.1
  ·exact k.fr.may e
 ·have h:=k.apart
  unfold blks at h
  rw [List.pairwise_append] at h
  unfold allB
  rw [List.pairwise_append]
  exact ⟨h.2.1,h.1,fun a ha b hb e=>h.2.2 b hb a ha ⟨e.2,e.1⟩⟩
 ·have h:=k.sum
  unfold blks at h
  rw [sumL_append] at h
  unfold allB
  rw [sumL_append]
  omega
end Go.Proofs.YtcodpnbemdflcaaGreatDoor
namespace Go.Proofs.YtcodpnbemdflcaaGreatDoor
open Go.ChangeShapes Go.WideShapes Go.Deep Go.Joins Go.RowKit
structure RdP (w:World) (A:Option Addr) (n:Nat) (l:List Opn):Prop where
 len:l.length=n
 at_:0 < n → ∃ b off,A=some ⟨b,off,none⟩∧b < w.heap.size ∧ ∀ (j:Nat) (o:Opn),l[j]? = some o → ∀ (i:Nat) (u:Value),(opcs o)[i]? = some u→w.cell? ⟨b,off+j*7+i,none⟩=some u
theorem RdP.below {w w':World} {A:Option Addr} {n:Nat} {l:List Opn} (h:RdP w A n l) (k:Below w.heap.size w w'):RdP w' A n l :=
 ⟨h.len,fun hn=>by
  obtain ⟨b,off,e,hb,hc⟩:=h.at_ hn
  exact ⟨b,off,e,Nat.lt_of_lt_of_le hb k.size,fun j o hj i u hu=>(k.cell (p:=⟨b,off+j*7+i,none⟩) hb).trans (hc j o hj i u hu)⟩⟩
theorem RdP.get {w:World} {A:Option Addr} {n:Nat} {l:List Opn} (h:RdP w A n l) {j:Nat} (hj:j < n) : ∃ b off o,A=some ⟨b,off,none⟩∧b < w.heap.size∧l[j]? = some o ∧ ∀ (i:Nat) (u:Value),(opcs o)[i]? = some u→w.cell? ⟨b,off+j*7+i,none⟩=some u:=by
 obtain ⟨b,off,e,hb,hc⟩:=h.at_ (by omega)
 have hl:j < l.length:=by have:=h.len;omega
 exact ⟨b,off,l[j],e,hb,List.getElem?_eq_getElem hl,hc j _ (List.getElem?_eq_getElem hl)⟩
end Go.Proofs.YtcodpnbemdflcaaGreatDoor
namespace Go.Proofs.YtcodpnbemdflcaaGreatDoor
open Go.RowKit
theorem topOver_any (A:Option Addr) (n c:Nat) (w:World) (hn:n≤60):Calls Tryz.prog 5 #[.slice A n c] w fun e w'=>e = .returned (.bool false)∧w=w':=by
 have h:decide (60 < (n:Int))=false:=by simp;omega
 go_enter Tryz.func5,Tryz.ntmps5
 go_wp2
 go_ret
 exact ⟨rfl,rfl⟩
theorem topOver_big (A:Option Addr) (n c:Nat) (w:World) (hn : ¬ n≤60):Calls Tryz.prog 5 #[.slice A n c] w fun e w'=>e = .returned (.bool true)∧w=w':=by
 have h:decide (60 < (n:Int))=true:=by simp;omega
 go_enter Tryz.func5,Tryz.ntmps5
 go_wp2
 go_ret
 exact ⟨rfl,rfl⟩
theorem took_c:Took [(0,3)] 1 (0,1) [(2,1),(4,2)]:=by
 refine ⟨(0,3),by simp,by decide,fun c hc _ => ?_,rfl,?_,fun c => ?_⟩
 ·rw [List.mem_singleton.1 hc];exact Lq.refl _
 ·rw [List.pairwise_cons]
  exact ⟨fun b hb=>by rw [List.mem_singleton.1 hb];decide,List.pairwise_singleton _ _⟩
 ·unfold IsHalf
  simp only [List.mem_cons,List.not_mem_nil,or_false]
  constructor
  ·rintro (rfl | rfl)
   ·exact .inr ⟨by decide,by decide,by decide⟩
   ·exact .inr ⟨by decide,by decide,by decide⟩
  ·rintro (⟨h1,h2⟩ | ⟨h1,h2,h3⟩)
   ·exact absurd h1 h2
   ·have h1':(1:Int)≤c.2:=h1
    have h2':c.2 < 3:=h2
    rcases (by omega:c.2=1∨c.2=2) with e | e
    ·rw [e] at h3;exact .inl (Prod.ext h3 e)
    ·rw [e] at h3;exact .inr (Prod.ext h3 e)
def oneH:Hp:=⟨3, [⟨1,(0,1), [0], []⟩],2, [0,0,0,0], [(2,1),(4,2)]⟩
theorem one_is:doH (newH 3) ⟨1,0,0,1,0,0,0⟩=(oneH,0,1):=by
 rw [doH_right (right_newH (by omega)),doneH_alloc rfl]
 exact alloc_gives (N:=1) (by decide) (by decide) (by decide) (by decide) took_c
set_option maxRecDepth 100000 in
set_option maxHeartbeats 2000000 in
theorem grows_any (w:World) (hT:Tab w):Calls Tryz.prog 6 #[] w (Tells w (.bool true)):=by
 have HT:=Lib.hid hT
 clear hT
 go_enter Tryz.func6,Tryz.ntmps6
 go_upto_region 2 with (go_at_call 4;refine (new3 _).mono ?_;rintro e w1 ⟨A,n,c,F,d,rfl,o1,b1⟩)
 obtain ⟨p,W,hW,hp,K,bw⟩:=box_heap w1 (.int .i64 3) (.slice A n c) (.int .i64 1) (.int .i64 0) (.int .i64 0) (.int .i64 0) (.int .i64 0) (.slice F 1 d)
 rw [hW, ← hp]
 have B0:=Lib.hid (b1.trans (bw.mono b1.size))
 have S:=do_heap ⟨A,n,c,F,1,d⟩ (newH 3) ⟨1,0,0,1,0,0,0⟩ W (o1.rd.below bw) ⟨by decide,by decide,by decide⟩ (HT.out.below B0.out)
 rw [one_is] at S
 have hv:hval (newH 3) ⟨A,n,c,F,1,d⟩ = .agg #[.int .i64 3, .slice A n c, .int .i64 1, .int .i64 0, .int .i64 0, .int .i64 0, .int .i64 0, .slice F 1 d]:=rfl
 rw [hv] at S
 simp only [opv,opcs] at S
 obtain ⟨c0,c1,c2,c3,c4,c5,c6,c7⟩:=K.eight
 clear hW hp bw o1 b1 hv
 go_upto_region 3 with (go_at_call 9;refine S.mono ?_;rintro e w3 ⟨⟨A3,n3,c3',F3,m3,d3⟩,os3,rfl,o3,b3⟩;simp only [hval,hcs])
 obtain ⟨p3',W3,hW3,hp3,Kx3,Kr3,bw3⟩:=box_two w3 (.int .i64 oneH.od) (.slice A3 n3 c3') (.int .i64 oneH.nx) (.int .i64 (tget oneH 0)) (.int .i64 (tget oneH 1)) (.int .i64 (tget oneH 2)) (.int .i64 (tget oneH 3)) (.slice F3 m3 d3) (.int .i64 0) (.int .i64 1)
 rw [hW3, ← hp3]
 have bb3:=b3.trans (bw3.mono b3.size)
 have B3:=Lib.hid (B0.out.trans (bb3.mono B0.out.size))
 have R3:=o3.rd.below bw3
 have hn3:n3=1:=by have h1:=R3.obs.len;exact h1.symm
 subst hn3
 obtain ⟨b',off,x,rfl,hbl,hx,A1,n1,e1,B1,m1,d1,h0,h1,h2,_,_,_,_⟩:=R3.obs.get (j:=0) (by simp)
 obtain rfl:x=⟨1,(0,1), [0], []⟩:=by
  have:oneH.obs[0]? = some (⟨1,(0,1), [0], []⟩:Ob):=rfl
  rw [this] at hx
  injection hx with hx
  exact hx.symm
 simp only [Nat.zero_mul,Nat.add_zero] at h0 h1 h2
 have y1:=Kx3.cell 1
 have r1:=Kr3.cell 1
 simp only [List.getElem?_cons_succ,List.getElem?_cons_zero] at y1 r1
 have SW:=fun W=>words_any 1 W
 rw [show wordsI 1=2 by decide] at SW
 clear S hW3 hp3 Kx3 Kr3 bw3 b3 bb3 R3 o3 c0 c1 c2 c3 c4 c5 c6 c7 hx
 go_wp2_with (go_at_call 16;refine (SW _).mono ?_;rintro e w5 ⟨rfl,rfl⟩)
 go_ret
 exact ⟨rfl,B3.out⟩
end Go.Proofs.YtcodpnbemdflcaaGreatDoor
namespace Go.Proofs.YtcodpnbemdflcaaGreatDoor
open Go.RowKit Go.ChangeShapes Go.WideShapes Go.Deep
theorem int_of {n:Int} (h:(Lit.int .i64 n).wf=true):IsInt n:=by
 have:=wf_i64 h
 unfold IsInt
 omega
section
variable {H:Type} {enc:TypeId × Value→H} {w:World}
end
end Go.Proofs.YtcodpnbemdflcaaGreatDoor
namespace Go.Proofs.YtcodpnbemdflcaaGreatDoor
open Go.ChangeShapes Go.WideShapes Go.Deep Go.Joins Go.RowKit
section
variable {H:Type} {enc:TypeId × Value→H} {w:World}
theorem opI_open {cs:List Value} {fuel:Nat} {x:DataW H × List MemPlace} (h:DataW.trod enc Tryz.prog w 0 (fun _=>true) true fuel 45 cs=some x) : ∃ o,cs=opcs o∧IntOp o:=by
 have hI:Tryz.prog.cellsOf 3=1:=by kernel_rfl
 have hK:Tryz.prog.cellsOf 43=1:=by kernel_rfl
 have hO:Tryz.prog.cellsOf 45=7:=by kernel_rfl
 obtain ⟨n,y0,y1,y2,y3,y4,y5,y6,hlen,g0,g1,g2,g3,g4,g5,g6⟩:=trod_fields7 Tryz.underlying45 h
 rw [hO] at hlen
 obtain ⟨c0,c1,c2,c3,c4,c5,c6,rfl⟩:=list7 hlen
 simp only [hI,hK,List.drop_zero,List.drop_succ_cons,List.take_succ_cons,List.take_zero] at g0 g1 g2 g3 g4 g5 g6
 obtain ⟨a0,e0,_,q0⟩:=DataW.trod_int Tryz.underlying43 g0
 obtain ⟨a1,e1,_,q1⟩:=DataW.trod_int Tryz.underlying3 g1
 obtain ⟨a2,e2,_,q2⟩:=DataW.trod_int Tryz.underlying3 g2
 obtain ⟨a3,e3,_,q3⟩:=DataW.trod_int Tryz.underlying3 g3
 obtain ⟨a4,e4,_,q4⟩:=DataW.trod_int Tryz.underlying3 g4
 obtain ⟨a5,e5,_,q5⟩:=DataW.trod_int Tryz.underlying3 g5
 obtain ⟨a6,e6,_,q6⟩:=DataW.trod_int Tryz.underlying3 g6
 simp at e0 e1 e2 e3 e4 e5 e6
 subst e0 e1 e2 e3 e4 e5 e6
 refine ⟨⟨a0,a1,a2,a3,a4,a5,a6⟩,rfl,fun n hn => ?_⟩
 simp only [opI,List.mem_cons,List.not_mem_nil,or_false] at hn
 rcases hn with rfl | rfl | rfl | rfl | rfl | rfl | rfl
 ·exact int_of q0
 ·exact int_of q1
 ·exact int_of q2
 ·exact int_of q3
 ·exact int_of q4
 ·exact int_of q5
 ·exact int_of q6
end
def IsOpsI (w:World) (A:Option Addr) (n:Nat):Prop := ∃ l,RdP w A n l ∧ ∀ o ∈ l,IntOp o
theorem opsI_open {H:Type} {enc:TypeId × Value→H} {w:World} {A:Option Addr} {len cap fuel:Nat} {x:DataW H × List MemPlace}
  (h:DataW.trod enc Tryz.prog w 0 (fun _=>true) true fuel 22 [.slice A len cap]=some x):IsOpsI w A len:=by
 have h2:Tryz.prog.cellsOf 45=7:=by kernel_rfl
 rcases open_slice Tryz.underlying22 h with ⟨hcs,_⟩ | ⟨a,len',cap',m,n,D,Pl,hcs,_,hl,_,hm,_,hi⟩
 ·simp at hcs
  obtain ⟨rfl,rfl,rfl⟩:=hcs
  exact ⟨[],⟨rfl,fun h=>absurd h (by omega)⟩,fun o ho=>by cases ho⟩
 ·simp at hcs
  obtain ⟨rfl,rfl,rfl⟩:=hcs
  simp only [if_true] at hm
  subst hm
  have key : ∀ i,i < m → ∃ o:Opn,IntOp o ∧ ∀ (j:Nat) (u:Value),(opcs o)[j]? = some u→w.cell? ((a.add (i*7)).add j)=some u:=fun i hlt=>by
   obtain ⟨cs,hc,ht⟩:=hi i hlt
   rw [h2] at hc
   obtain ⟨_,hcl,hat⟩:=World.cells?_some hc
   obtain ⟨o,rfl,ho⟩:=opI_open ht
   refine ⟨o,ho,fun j u hu => ?_⟩
   have hj:j < 7:=(List.getElem?_eq_some_iff.1 hu).1
   have z:=hat j hj
   rw [hu] at z
   simpa [Addr.add] using z
  have keyF : ∀ i, ∃ o:Opn,i < m→IntOp o ∧ ∀ (j:Nat) (u:Value),(opcs o)[j]? = some u→w.cell? ((a.add (i*7)).add j)=some u:=fun i=>by
   by_cases hlt:i < m
   ·obtain ⟨o,h⟩:=key i hlt
    exact ⟨o,fun _=>h⟩
   ·exact ⟨⟨0,0,0,0,0,0,0⟩,fun h=>absurd h hlt⟩
  refine ⟨(List.range len).map fun i=>Classical.choose (keyF i),⟨by simp,fun h0 => ?_⟩,fun o ho => ?_⟩
  rotate_left
  ·simp only [List.mem_map,List.mem_range] at ho
   obtain ⟨i,hi',rfl⟩:=ho
   exact (Classical.choose_spec (keyF i) (by omega)).1
  obtain ⟨b,off,spot⟩:=a
  obtain ⟨o0,_,hk0⟩:=key 0 (by omega)
  have hk:=hk0 0 _ rfl
  have hspot:spot=none:=by simpa [Addr.add] using World.cell?_spot hk
  subst hspot
  have hlt:b < w.heap.size:=by
   have:=World.block_lt_of_cell? w _ hk
   simpa [Addr.add] using this
  refine ⟨b,off,rfl,hlt,fun j o hx i u hu => ?_⟩
  have hj:j < len:=by
   rcases Nat.lt_or_ge j len with h | h
   ·exact h
   ·rw [List.getElem?_eq_none (by simp;omega)] at hx;cases hx
  simp only [List.getElem?_map,List.getElem?_range hj,Option.map_some,Option.some.injEq] at hx
  have hc:=Classical.choose_spec (keyF j) (by omega)
  rw [hx] at hc
  have hc:=hc.2 i u hu
  simp only [add_plain] at hc
  exact hc
end Go.Proofs.YtcodpnbemdflcaaGreatDoor
namespace Go.Proofs.YtcodpnbemdflcaaGreatDoor
open Go.ChangeShapes Go.WideShapes Go.Deep Go.Joins Go.RowKit
structure Pop where
 k:Int
 a:Int
 A:Option Addr
 m:Nat
 c:Nat
 l:List UInt8
 K:Option Addr
 j:Nat
 d:Nat
 ks:List Bool
def pcs (o:Pop):List Value := [.int .i64 o.k, .int .i64 o.a, .slice o.A o.m o.c, .slice o.K o.j o.d]
section
variable {H:Type} {enc:TypeId × Value→H} {w:World}
theorem bools_open {A:Option Addr} {len cap fuel:Nat} {x:DataW H × List MemPlace}
  (h:DataW.trod enc Tryz.prog w 0 (fun _=>true) true fuel 23 [.slice A len cap]=some x) : ∃ l,RdV w A len (tvs l):=by
 rcases open_bools Tryz.underlying23 Tryz.underlying4 (by kernel_rfl) h with ⟨hcs,_⟩ | ⟨a,l,c,B,hcs,_,hl,hm,_,hcell⟩
 ·simp at hcs
  obtain ⟨rfl,rfl,rfl⟩:=hcs
  exact ⟨[],rfl,fun h0=>absurd h0 (by omega)⟩
 ·simp at hcs
  obtain ⟨rfl,rfl,rfl⟩:=hcs
  refine ⟨(List.range len).map B,by simp [tvs],fun h0 => ?_⟩
  obtain ⟨b,off,spot⟩:=a
  have hk:=hcell 0 (by omega)
  have hspot:spot=none:=by simpa [Addr.add] using World.cell?_spot hk
  subst hspot
  have hlt:b < w.heap.size:=by
   have:=World.block_lt_of_cell? w _ hk
   simpa [Addr.add] using this
  refine ⟨b,off,rfl,hlt,fun j u hu => ?_⟩
  have hj:j < len:=by
   have:=(List.getElem?_eq_some_iff.1 hu).1
   simpa [tvs] using this
  have hc:=hcell j (by omega)
  rw [add_plain] at hc
  rw [hc]
  simp [tvs,List.getElem?_range hj] at hu
  rw [hu]
end
def IsBools (w:World) (A:Option Addr) (n:Nat):Prop := ∃ l,RdV w A n (tvs l)
theorem bools_is {H:Type} {enc:TypeId × Value→H} {w:World} {A:Option Addr} {len cap fuel:Nat} {x:DataW H × List MemPlace}
  (h:DataW.trod enc Tryz.prog w 0 (fun _=>true) true fuel 23 [.slice A len cap]=some x):IsBools w A len:=bools_open h
end Go.Proofs.YtcodpnbemdflcaaGreatDoor

/-
  A heap that came in, as a row's frame opens it, reads as a heap. Plain lemmas.
  The law HeapChecks, walked.
  A copy of a heap that the call's methods work on: words for it, and the contract of what makes it.
-/
import Derived.Test.YtcodpnbemdflcaaGreatDoorTg15
import Derived.Deep.Slices
import Derived.Lib.SmallJoins
import Derived.OpenShut
import Derived.ChangeSame
import Derived.Test.YtcodpnbemdflcaaGreatDoorTg20
import Derived.Test.YtcodpnbemdflcaaGreatDoorTg18
namespace Go.Proofs.YtcodpnbemdflcaaGreatDoor
open Go.ChangeShapes Go.WideShapes Go.Deep Go.Joins Go.RowKit
theorem wf_i64 {a:Int} (h:(Lit.int .i64 a).wf=true) : -9223372036854775808≤a∧a≤9223372036854775807:=by
 simpa [Lit.wf,IntKind.min,IntKind.max,IntKind.signed,IntKind.bits] using h
theorem list4 {α:Type} {l:List α} (h:l.length=4) : ∃ a b c d,l = [a,b,c,d]:=by
 match l,h with
 | [a,b,c,d],_=>exact ⟨a,b,c,d,rfl⟩
section
variable {H:Type} {enc:TypeId × Value→H} {w:World}
end
end Go.Proofs.YtcodpnbemdflcaaGreatDoor
namespace Go.Proofs.YtcodpnbemdflcaaGreatDoor
open Go.RowKit
theorem Whole.eight {w:World} {g:Nat} {t:TypeId} {a0 a1 a2 a3 a4 a5 a6 a7:Value} (h:Whole w g t [a0,a1,a2,a3,a4,a5,a6,a7]) :
  w.cell? ⟨g,0,none⟩=some a0∧w.cell? ⟨g,1,none⟩=some a1∧w.cell? ⟨g,2,none⟩=some a2∧w.cell? ⟨g,3,none⟩=some a3∧w.cell? ⟨g,4,none⟩=some a4∧w.cell? ⟨g,5,none⟩=some a5∧w.cell? ⟨g,6,none⟩=some a6∧w.cell? ⟨g,7,none⟩=some a7 :=
 ⟨h.cell 0,h.cell 1,h.cell 2,h.cell 3,h.cell 4,h.cell 5,h.cell 6,h.cell 7⟩
theorem box_heap (w:World) (a0 a1 a2 a3 a4 a5 a6 a7:Value) :
  ∃ p W,w.alloc (.cells #[a0,a1,a2,a3,a4,a5,a6,a7] 28)=W∧p=w.heap.size∧Whole W p 28 [a0,a1,a2,a3,a4,a5,a6,a7]∧Below w.heap.size w W :=
 ⟨_,_,rfl,rfl,Whole.new w #[a0,a1,a2,a3,a4,a5,a6,a7] 28,(Below.refl _ _).alloc (Nat.le_refl _) _⟩
end Go.Proofs.YtcodpnbemdflcaaGreatDoor
namespace Go.Proofs.YtcodpnbemdflcaaGreatDoor
open Go.RowKit
structure CpAt (w:World) (base g:Nat) (s:HSl) (os:List (Ob × OSl)) (H:Hp):Prop where
 box:Whole w g 76 (hcs H s)
 own:OwnHp w base s os H
 ge:base≤g
theorem CpAt.below {w w':World} {base g:Nat} {s:HSl} {os:List (Ob × OSl)} {H:Hp} (h:CpAt w base g s os H) (b:Below w.heap.size w w'):CpAt w' base g s os H:=⟨h.box.below b,h.own.below b,h.ge⟩
theorem ocs_ws : ∀ {os:List (Ob × OSl)} {i:Nat} {p:Ob × OSl} (u:Value),os[i]? = some p→(ocs os).set (i*5+3) u=ocs (os.set i (p.1,⟨u,p.2.lv⟩))
 | [],i,p,u,h=>by simp at h
 | q :: t,0,p,u,h=>by
  simp at h
  subst h
  rfl
 | q :: t,i+1,p,u,h=>by
  have h1 : ∀ r:List (Ob × OSl),ocs (q :: r)=oc q++ocs r:=fun r=>by simp [ocs]
  have hq:(oc q).length=5:=rfl
  rw [List.set_cons_succ,h1,h1, ← ocs_ws u (by simpa using h),List.set_append_right _ _ (by omega),hq,show (i+1)*5+3 - 5=i*5+3 by omega]
theorem ocs_ls : ∀ {os:List (Ob × OSl)} {i:Nat} {p:Ob × OSl} (u:Value),os[i]? = some p→(ocs os).set (i*5+4) u=ocs (os.set i (p.1,⟨p.2.wv,u⟩))
 | [],i,p,u,h=>by simp at h
 | q :: t,0,p,u,h=>by
  simp at h
  subst h
  rfl
 | q :: t,i+1,p,u,h=>by
  have h1 : ∀ r:List (Ob × OSl),ocs (q :: r)=oc q++ocs r:=fun r=>by simp [ocs]
  have hq:(oc q).length=5:=rfl
  rw [List.set_cons_succ,h1,h1, ← ocs_ls u (by simpa using h),List.set_append_right _ _ (by omega),hq,show (i+1)*5+4 - 5=i*5+4 by omega]
structure CcMem (w:World) (H:Hp) (cs:List Value) (A':Option Addr) (n c':Nat) (F':Option Addr) (m' d':Nat) (os0 os1:List (Ob × OSl)) (W:World):Prop where
 kh:Whole W w.heap.size 28 cs
 kc:Whole W (w.heap.size+1) 76 [.int .i64 H.od, .slice A' n c', .int .i64 H.nx, .int .i64 (tget H 0), .int .i64 (tget H 1), .int .i64 (tget H 2), .int .i64 (tget H 3), .slice F' m' d']
 row:W.ownsRow (w.heap.size+2) 60 5 (.slice A' n c') n (ocs (os1++os0.drop os1.length))
 ints : ∀ p ∈ os1,OwnV 3 W (w.heap.size+2) p.2.wv (ivs p.1.ws)∧OwnV 3 W (w.heap.size+2) p.2.lv (ivs p.1.ls)
 apart:(blocksOf os1).Nodup
 fr:OwnB 57 W (w.heap.size+2) (.slice F' m' d') H.fr
 bel:Below w.heap.size w W
section
variable {w W W':World} {H:Hp} {cs:List Value} {A' F':Option Addr} {n c' m' d':Nat} {os0 os1:List (Ob × OSl)}
theorem CcMem.below (h:CcMem w H cs A' n c' F' m' d' os0 os1 W) (b:Below W.heap.size W W'):CcMem w H cs A' n c' F' m' d' os0 os1 W' :=
 ⟨h.kh.below b,h.kc.below b,row_keep h.row fun k hk=>b.block k (World.ownsRow.lt h.row k hk).2,fun p hp=>⟨(h.ints p hp).1.below b,(h.ints p hp).2.below b⟩,h.apart,h.fr.below b,h.bel.trans (b.mono h.bel.size)⟩
theorem CcMem.step {g:Nat} (h:CcMem w H cs (some ⟨g,0,none⟩) n c' F' m' d' os0 os1 W) {p0:Ob × OSl} (hp:os0[os1.length]? = some p0) {v1 v2:Value} {W1 W2:World}
  (b1:Below W.heap.size W W1) (o1:OwnV 3 W1 W.heap.size v1 (ivs p0.1.ws)) (b2:Below W1.heap.size (W1.setCell ⟨g,os1.length*5+3,none⟩ v1) W2) (o2:OwnV 3 W2 W1.heap.size v2 (ivs p0.1.ls)) :
  CcMem w H cs (some ⟨g,0,none⟩) n c' F' m' d' os0 (os1 ++ [(p0.1,⟨v1,v2⟩)]) (W2.setCell ⟨g,os1.length*5+4,none⟩ v2):=by
 have M1:=h.below b1
 have hg1:w.heap.size+2≤g:=(World.ownsRow.lt h.row g rfl).1
 have hgW:g < W.heap.size:=(World.ownsRow.lt h.row g rfl).2
 have hgW1:g < W1.heap.size:=Nat.lt_of_lt_of_le hgW b1.size
 have hsz:(W1.setCell ⟨g,os1.length*5+3,none⟩ v1).heap.size=W1.heap.size:=by simp [World.setCell]
 have b2':Below (W1.setCell ⟨g,os1.length*5+3,none⟩ v1).heap.size (W1.setCell ⟨g,os1.length*5+3,none⟩ v1) W2:=by rw [hsz];exact b2
 have G:W1.grownBy (W2.setCell ⟨g,os1.length*5+4,none⟩ v2) (some g):=grown_trans (grown_set _ _ _ _) (grown_trans (grown_below b2' _) (grown_set _ _ _ _))
 obtain ⟨cur,hgt⟩:=row_type M1.row (k:=g) rfl
 have hneI : ∀ {v:Value} {l:List Value} {base:Nat},OwnV 3 W1 base v l → ∀ k,v.ownBlock=some k→some k≠some g:=fun ho k hk e=>by
  obtain ⟨cur2,h2⟩:=row_type ho hk
  injection e with e
  rw [e,hgt] at h2
  injection h2 with h2
  injection h2 with _ ht
  exact absurd ht (by decide)
 have keepI : ∀ {v:Value} {l:List Value} {base:Nat},OwnV 3 W1 base v l→OwnV 3 (W2.setCell ⟨g,os1.length*5+4,none⟩ v2) base v l:=fun ho=>ho.keep fun k hk=>G.block k (ho.lt k hk).2 (hneI ho k hk)
 have hk1:=o1.lt
 have hk2:=o2.lt
 have hko : ∀ k ∈ blocksOf os1,k < W.heap.size:=fun k hk=>by
  obtain ⟨p,hp,e⟩:=mem_blocks.1 hk
  rcases e with e | e
  ·exact ((h.ints p hp).1.lt k e).2
  ·exact ((h.ints p hp).2.lt k e).2
 refine ⟨M1.kh.grown G (by omega),M1.kc.grown G (by omega),?_,fun q hq => ?_,?_,M1.fr.grown G fun k hk e => ?_,below_grown M1.bel G M1.bel.size (by omega)⟩
 ·have hget:(os1++os0.drop os1.length)[os1.length]? = some p0:=by
   rw [List.getElem?_append_right (Nat.le_refl _),Nat.sub_self,List.getElem?_drop,Nat.add_zero];exact hp
  have hr1:=(World.ownsRow.stored M1.row (os1.length*5+3) v1).1
  rw [ocs_ws v1 hget] at hr1
  have hr2:=row_keep hr1 (w':=W2) fun k hk=>b2'.block k (World.ownsRow.lt hr1 k hk).2
  have hr3:=(World.ownsRow.stored hr2 (os1.length*5+4) v2).1
  have hlt:os1.length < (os1++os0.drop os1.length).length:=(List.getElem?_eq_some_iff.1 hget).1
  rw [ocs_ls (p:=(p0.1,⟨v1,p0.2.lv⟩)) v2 (by rw [List.getElem?_set_self hlt]),List.set_set] at hr3
  simp only at hr3
  rw [List.set_append_right _ _ (Nat.le_refl _),Nat.sub_self] at hr3
  have hd:os0.drop os1.length=p0 :: os0.drop (os1.length+1):=by
   obtain ⟨q1,q2⟩:=List.getElem?_eq_some_iff.1 hp
   rw [List.drop_eq_getElem_cons q1,q2]
  rw [hd,List.set_cons_zero] at hr3
  rw [List.length_append,List.length_singleton,List.append_assoc]
  exact hr3
 ·rcases List.mem_append.1 hq with e | e
  ·exact ⟨keepI (M1.ints q e).1,keepI (M1.ints q e).2⟩
  ·rw [List.mem_singleton.1 e]
   have hw2:=h.bel.size
   refine ⟨(keepI o1).mono (by omega),(o2.mono (by have:=b1.size;omega)).keep fun k hk => ?_⟩
   have:=(hk2 k hk).1
   exact (grown_set W2 g (os1.length*5+4) v2).block k (hk2 k hk).2 fun e=>by injection e with e;omega
 ·rw [blocksOf_snoc,List.nodup_append]
  refine ⟨h.apart,?_,fun a ha b hb e => ?_⟩
  ·unfold twoB
   exact nodup_two fun i j hi hj=>by have:=(hk1 i hi).2;have:=(hk2 j hj).1;omega
  ·have h1:=hko a ha
   have h2:=b1.size
   rcases mem_two.1 hb with e2 | e2
   ·have:=(hk1 b e2).1;omega
   ·have:=(hk2 b e2).1;omega
 ·obtain ⟨cur2,h2⟩:=row_type M1.fr hk
  injection e with e
  rw [e,hgt] at h2
  injection h2 with h2
  injection h2 with _ ht
  exact absurd ht (by decide)
end
theorem row_shape {U:TypeId} {w:World} {base sz n m:Nat} {v:Value} {xs:List Value} (h:w.ownsRow base U sz v m xs) (hm:m=n) : ∃ A c,v = .slice A n c:=by
 subst hm
 rcases h.2 with ⟨rfl,hn⟩ | ⟨g,cap,cur,rfl,_⟩
 ·exact ⟨none,0,by rw [hn]⟩
 ·exact ⟨_,cap,rfl⟩
theorem row_some {U:TypeId} {w:World} {base sz n c:Nat} {A:Option Addr} {xs:List Value} (h:w.ownsRow base U sz (.slice A n c) n xs) (hn:0 < n) : ∃ g,A=some ⟨g,0,none⟩:=by
 rcases h.2 with ⟨e,h0⟩ | ⟨g,cap,cur,e,_⟩
 ·omega
 ·injection e with e
  exact ⟨g,e⟩
theorem row_mono {U:TypeId} {w:World} {base base' sz n:Nat} {v:Value} {xs:List Value} (h:w.ownsRow base U sz v n xs) (hb:base'≤base):w.ownsRow base' U sz v n xs:=by
 refine ⟨h.1,?_⟩
 rcases h.2 with h2 | ⟨g,cap,cur,hv,hg,r⟩
 ·exact .inl h2
 ·exact .inr ⟨g,cap,cur,hv,by omega,r⟩
theorem row_cellA {U:TypeId} {w:World} {base sz n cap g:Nat} {xs:List Value} (h:w.ownsRow base U sz (.slice (some ⟨g,0,none⟩) n cap) n xs) (j:Nat) (hj:j < n*sz) : ∃ u,w.cell? ⟨g,j,none⟩=some u:=by
 rw [World.ownsRow.cellAt h j hj]
 exact ⟨_,List.getElem?_eq_getElem (by rw [h.1];exact hj)⟩
def CopyPost (w:World) (H:Hp) (e:Ending) (w':World):Prop := ∃ g s os,e = .returned (.pointer (some ⟨g,0,none⟩))∧CpAt w' w.heap.size g s os H∧Below w.heap.size w w'
def CcRel (w:World) (H:Hp) (cs:List Value) (A':Option Addr) (n c':Nat) (F':Option Addr) (m' d':Nat) (os0:List (Ob × OSl)) (i:Value) (wr:World):Prop :=
 ∃ os1,os1.length≤n∧i = .int .i64 ((os1.length:Nat):Int)∧os1.map (·.1)=H.obs.take os1.length∧CcMem w H cs A' n c' F' m' d' os0 os1 wr
set_option maxRecDepth 100000 in
set_option maxHeartbeats 4000000 in
theorem copyOf_any (s:HSl) (H:Hp) (w:World) (h:RdH w s H) (hS:SmallH H) :
  Calls Tryz.prog 22 #[hval H s] w (CopyPost w H):=by
 obtain ⟨os0,hmap,hrows,hat⟩:=h.obs.list
 have hol:os0.length=s.n:=by rw [← h.obs.len, ← hmap,List.length_map]
 have hn600:s.n≤600:=by rw [← h.obs.len];exact hS.1
 have hm600:s.m≤600:=by rw [← h.fr.len];exact hS.2.1
 have HSm:=Lib.hid hS.2.2
 have HR:=Lib.hid h
 have Hmap:=Lib.hid hmap
 have Hrows:=Lib.hid hrows
 have Hat:=Lib.hid hat
 have Hol:=Lib.hid hol
 have k0:=Whole.new w (hcs H s).toArray 28
 have k1:=Whole.new (w.alloc (.cells (hcs H s).toArray 28)) (hcs H s).toArray 76
 have hz:(w.alloc (.cells (hcs H s).toArray 28)).heap.size=w.heap.size+1:=by simp
 have hz2:((w.alloc (.cells (hcs H s).toArray 28)).alloc (.cells (hcs H s).toArray 76)).heap.size=w.heap.size+2:=by simp
 rw [hz] at k1
 have K0:=k0.alloc (.cells (hcs H s).toArray 76)
 have b0:Below w.heap.size w ((w.alloc (.cells (hcs H s).toArray 28)).alloc (.cells (hcs H s).toArray 76)):=((Below.refl _ _).alloc (Nat.le_refl _) _).alloc (by rw [hz];omega) _
 clear h hS hmap hrows hat k0
 obtain ⟨A,n,c,F,m,d⟩:=s
 simp only [hval,hcs] at *
 go_enter Tryz.func22,Tryz.ntmps22
 go_upto_region 2 with (fail)
 generalize (w.alloc (.cells _ 28)).alloc (.cells _ 76)=W2 at k1 hz2 K0 b0 ⊢
 obtain ⟨c0,c1,c2,c3,c4,c5,c6,c7⟩:=K0.eight
 obtain ⟨e0,e1,e2,e3,e4,e5,e6,e7⟩:=k1.eight
 have S1:=cloneB_any H.fr F m d W2 (HR.out.fr.below b0) (by omega)
 have HK1:=Lib.hid k1
 have HK0:=Lib.hid K0
 have Hb0:=Lib.hid b0
 have Hz2:=Lib.hid hz2
 have Hfl:=Lib.hid HR.out.fr.len
 have fr1:=fun (W:World) (b:Below W2.heap.size W2 W)=>(k1.below b).free 7
 have E7:=fun (W:World) (b:Below W2.heap.size W2 W)=>(k1.below b).cell 7
 simp only [List.getElem?_cons_succ,List.getElem?_cons_zero] at E7
 have FR1:=Lib.hid (And.intro fr1 E7)
 clear hz k1 K0 b0 hz2 c0 c1 c2 c3 c4 c5 c6 e0 e1 e2 e3 e4 e5 e6 e7 fr1 E7 hol
 go_upto_region 3 with (go_at_call 42;refine S1.mono ?_;rintro e W3 ⟨v,rfl,o3,b3⟩;obtain ⟨F',d',rfl,_,_⟩:=o3.shape Hfl.out;have z7:=FR1.out.2 _ b3;have f7:=FR1.out.1 _ b3)
 clear S1 z7 f7 c7 FR1
 have gs4:=grown_set W3 (w.heap.size+1) 7 (.slice F' m d')
 have K04:=(HK0.out.below b3).grown gs4 (by omega)
 have K14:=(HK1.out.below b3).set 7 (.slice F' m d')
 simp only [List.set_cons_succ,List.set_cons_zero] at K14
 have O4:OwnB 57 _ (w.heap.size+2) (.slice F' m d') H.fr:=(o3.grown gs4 (fun k hk e=>by have:=(o3.lt k hk).1;rw [Hz2.out] at this;injection e with e;omega)).mono (by rw [Hz2.out];exact Nat.le_refl _)
 have B4:=below_grown (Hb0.out.trans (b3.mono Hb0.out.size)) gs4 (Hb0.out.trans (b3.mono Hb0.out.size)).size (by omega)
 have hs4:(W3.setCell ⟨w.heap.size+1,7,none⟩ (.slice F' m d')).heap.size=W3.heap.size:=by simp [World.setCell]
 have hge4:w.heap.size+2≤W3.heap.size:=by rw [← Hz2.out];exact b3.size
 generalize W3.setCell ⟨w.heap.size+1,7,none⟩ (.slice F' m d')=W4 at K04 K14 O4 B4 hs4 ⊢
 clear gs4 o3 b3 HK1 HK0 Hb0 Hz2
 have hge:w.heap.size+2≤W4.heap.size:=by omega
 clear hs4 hge4
 have S2:=cloneO_any os0 A n c W4 Hol.out (fun p hp=>(Hrows.out p hp).below B4) (fun h0=>by
  obtain ⟨b,off,hA,hb,hc⟩:=Hat.out h0
  exact ⟨b,off,hA,Nat.lt_of_lt_of_le hb B4.size,fun j u hu=>(B4.cell (p:=⟨b,off+j,none⟩) hb).trans (hc j u hu)⟩) (by omega)
 have c1:=K04.cell 1
 simp only [List.getElem?_cons_succ,List.getElem?_cons_zero] at c1
 have E1:=fun (W:World) (b:Below W4.heap.size W4 W)=>(K14.below b).cell 1
 simp only [List.getElem?_cons_succ,List.getElem?_cons_zero] at E1
 have FR1:=Lib.hid (And.intro (fun (W:World) (b:Below W4.heap.size W4 W)=>(K14.below b).free 1) E1)
 have HK0:=Lib.hid K04
 have HK1:=Lib.hid K14
 have HO4:=Lib.hid O4
 have HB4:=Lib.hid B4
 clear K04 K14 O4 B4 E1
 go_upto_region 4 with (go_at_call 43;refine S2.mono ?_;rintro e W5 ⟨v,rfl,o5,b5⟩;obtain ⟨A',c',rfl⟩:=row_shape o5 Hol.out;have z1:=FR1.out.2 _ b5;have f1:=FR1.out.1 _ b5)
 clear S2 z1 f1 c1 FR1
 have gs6:=grown_set W5 (w.heap.size+1) 1 (.slice A' n c')
 have M0:CcMem w H [.int .i64 H.od, .slice A n c, .int .i64 H.nx, .int .i64 (tget H 0), .int .i64 (tget H 1), .int .i64 (tget H 2), .int .i64 (tget H 3), .slice F m d] A' n c' F' m d' os0 [] (W5.setCell ⟨w.heap.size+1,1,none⟩ (.slice A' n c')):=by
  have hsz5:=b5.size
  refine ⟨(HK0.out.below b5).grown gs6 (by omega),(HK1.out.below b5).set 1 (.slice A' n c'),?_,(fun p hp=>by cases hp),List.nodup_nil,(HO4.out.below b5).grown gs6 (fun k hk e=>by have:=(HO4.out.lt k hk).1;injection e with e;omega),below_grown (HB4.out.trans (b5.mono HB4.out.size)) gs6 (HB4.out.trans (b5.mono HB4.out.size)).size (by omega)⟩
  rw [Hol.out] at o5
  have:=row_keep (row_mono o5 hge) (w':=W5.setCell ⟨w.heap.size+1,1,none⟩ (.slice A' n c')) fun k hk=>gs6.block k (World.ownsRow.lt o5 k hk).2 fun e=>by have:=(World.ownsRow.lt o5 k hk).1;injection e with e;omega
  simpa using this
 generalize W5.setCell ⟨w.heap.size+1,1,none⟩ (.slice A' n c')=W6 at M0 ⊢
 clear gs6 o5 b5 HK0 HK1 HO4 HB4 hge
 have c1:=M0.kh.cell 1
 simp only [List.getElem?_cons_succ,List.getElem?_cons_zero] at c1
 have HM0:=Lib.hid M0
 clear M0
 go_upto_region 5 with (fail)
 clear c1
 go_loopw [26] (CcRel w H [.int .i64 H.od, .slice A n c, .int .i64 H.nx, .int .i64 (tget H 0), .int .i64 (tget H 1), .int .i64 (tget H 2), .int .i64 (tget H 3), .slice F m d] A' n c' F' m d' os0) (fun i _=>n - (intOf i).toNat)
 case atStart=>exact ⟨[],Nat.zero_le _,rfl,rfl,HM0.out⟩
 case round =>
  clear HM0
  obtain ⟨os1,hk,rfl,hos,M⟩:=hrel
  obtain ⟨k,hkk⟩ : ∃ k,k=os1.length:=⟨_,rfl⟩
  rw [← hkk] at hk ⊢
  by_cases hlt:k < n
  ·obtain ⟨p0,hp0⟩ : ∃ p0,os0[k]? = some p0:=⟨_,List.getElem?_eq_getElem (by rw [Hol.out];exact hlt)⟩
   obtain ⟨b',off,rfl,hb',hc⟩:=Hat.out (by omega)
   have hx:H.obs[k]? = some p0.1:=by rw [← Hmap.out,List.getElem?_map,hp0];rfl
   obtain ⟨⟨A1,n1,f1,e1,r5⟩,⟨B1,m1,d1,e2,r6⟩⟩:=Hrows.out p0 (List.mem_of_getElem? hp0)
   have hbd:=HSm.out p0.1 (List.mem_of_getElem? hx)
   have cellp : ∀ i u,(oc p0)[i]? = some u→wr.cell? ⟨b',off+k*5+i,none⟩=some u:=fun i u hu=>by
    have e:=hc _ u (ocs_get hp0 i u hu)
    rw [show off+k*5+i=off+(k*5+i) by omega]
    exact (M.bel.cell (p:=⟨b',off+(k*5+i),none⟩) hb').trans e
   have z0:=(by simpa using cellp 0 _ rfl:wr.cell? ⟨b',off+k*5,none⟩=some (.int .i64 p0.1.hd))
   have z1:=cellp 1 _ rfl
   have z2:=cellp 2 _ rfl
   have z3:=cellp 3 _ rfl
   have z4:=cellp 4 _ rfl
   rw [e1] at z3
   rw [e2] at z4
   have hki:(k:Int) < (n:Int):=by omega
   have R5:=Lib.hid r5
   have R6:=Lib.hid r6
   have Hp0:=Lib.hid hp0
   have Hos:=Lib.hid hos
   have Hkk:=Lib.hid hkk
   have hn1:n1≤5000:=by rw [← r5.len];exact hbd.1
   have hm1:m1≤5000:=by rw [← r6.len];exact hbd.2
   obtain ⟨g,hg⟩ : ∃ g,A'=some ⟨g,0,none⟩:=row_some M.row (by omega)
   subst hg
   have HM:=Lib.hid M
   clear hp0 hx e1 e2 r5 r6 hbd cellp hos hkk hc hb' M
   go_upto_region 7 with (fail)
   clear z0 z1 z2 z3 z4
   have Kx:=Whole.new wr #[.int .i64 p0.1.hd, .int .i64 p0.1.bl.1, .int .i64 p0.1.bl.2, .slice A1 n1 f1, .slice B1 m1 d1] 60
   have bx:=(Below.refl wr.heap.size wr).alloc (Nat.le_refl _) (.cells #[.int .i64 p0.1.hd, .int .i64 p0.1.bl.1, .int .i64 p0.1.bl.2, .slice A1 n1 f1, .slice B1 m1 d1] 60)
   obtain ⟨kx,hkx⟩ : ∃ kx,kx=wr.heap.size:=⟨_,rfl⟩
   have HM7:=Lib.hid (HM.out.below bx)
   rw [← hkx] at Kx ⊢
   generalize wr.alloc (.cells _ 60)=W7 at Kx HM7 ⊢
   have Hgk:=Lib.hid (show g < kx by rw [hkx];exact (World.ownsRow.lt HM.out.row g rfl).2)
   clear bx hkx HM
   have KX:=Lib.hid Kx
   have x3:=Kx.cell 3
   have y1:=HM7.out.kc.cell 1
   simp only [List.getElem?_cons_succ,List.getElem?_cons_zero] at x3 y1
   have S:=fun (W:World) (b:Below W7.heap.size W7 W)=>cloneI_any p0.1.ws A1 n1 f1 W (R5.out.below (HM7.out.bel.trans (b.mono HM7.out.bel.size))) (by omega)
   have hl1:(ivs p0.1.ws).length=n1:=by rw [ivs_length];exact R5.out.len
   have hl2:(ivs p0.1.ls).length=m1:=by rw [ivs_length];exact R6.out.len
   have Hl1:=Lib.hid hl1
   have Hl2:=Lib.hid hl2
   have hgk:g < kx:=Hgk.out
   have HS1:=Lib.hid S
   clear Kx hl1 hl2 S
   go_cut [26] (fun v wc=>v = .int .i64 (k:Int) ∧ ∃ (A8:Option Addr) (d8:Nat) (W8:World),Below W7.heap.size W7 W8∧OwnV 3 W8 W7.heap.size (.slice A8 n1 d8) (ivs p0.1.ws)∧wc=W8.setCell ⟨g,k*5+3,none⟩ (.slice A8 n1 d8))
   case first =>
    go_region_with (go_at_call 44;refine (HS1.out _ (by first | exact Below.refl _ _ | exact (Below.refl _ _).drew)).mono ?_;rintro e W8 ⟨v1,rfl,o8,b8⟩;obtain ⟨A8,d8,rfl,_,_,_⟩:=OwnV.shape o8 Hl1.out;have bd:Below W7.heap.size W7 W8:=(Below.refl _ _).drew.trans b8;have y8:=(HM7.out.below bd).kc.cell 1;have q8:=row_cellA (HM7.out.below bd).row (k*5+3) (by omega);have f8:=World.ownsRow.frozenAt (HM7.out.below bd).row (k*5+3);simp only [List.getElem?_cons_succ,List.getElem?_cons_zero] at y8;obtain ⟨u8,q8⟩:=q8)
    all_goals
     go_wp2_with fail
     go_meet
     exact ⟨rfl,A8,d8,W8,bd,o8,rfl⟩
   case rest =>
    obtain ⟨rfl,A8,d8,W8,bd,o8,rfl⟩:=hcut
    have M1:=HM7.out.below bd
    have gs:=grown_set W8 g (k*5+3) (.slice A8 n1 d8)
    have hg2:w.heap.size+2≤g:=(World.ownsRow.lt HM7.out.row g rfl).1
    have KX8:=(KX.out.below bd).grown gs (by have:=Hgk.out;omega)
    have KC8:=M1.kc.grown gs (by omega)
    have hr8:=(World.ownsRow.stored M1.row (k*5+3) (.slice A8 n1 d8)).1
    have B8:=below_grown M1.bel gs M1.bel.size (by omega)
    have Bd:=Lib.hid bd
    have O8:=Lib.hid o8
    obtain ⟨W8s,hW8s⟩ : ∃ W8s,W8s=W8.setCell ⟨g,k*5+3,none⟩ (.slice A8 n1 d8):=⟨_,rfl⟩
    have HW8:=Lib.hid hW8s
    rw [← hW8s] at KX8 KC8 hr8 B8 ⊢
    have x4:=KX8.cell 4
    have y8:=KC8.cell 1
    simp only [List.getElem?_cons_succ,List.getElem?_cons_zero] at x4 y8
    have S2:=Lib.hid fun (W:World) (b:Below W8s.heap.size W8s W)=>cloneI_any p0.1.ls B1 m1 d1 W (R6.out.below (B8.trans (b.mono B8.size))) (by omega)
    have HKC:=Lib.hid KC8
    have HR8:=Lib.hid hr8
    clear bd o8 M1 gs KX8 KC8 hr8 B8 hW8s x3 y1 HS1
    go_upto_region 8 with (fail)
    go_region_with (go_at_call 44;refine (S2.out _ (by first | exact Below.refl _ _ | exact (Below.refl _ _).drew)).mono ?_;rintro e W9 ⟨v2,rfl,o9,b9⟩;obtain ⟨A9,d9,rfl,_,_,_⟩:=OwnV.shape o9 Hl2.out;have bd:Below W8s.heap.size W8s W9:=(Below.refl _ _).drew.trans b9;have y9:=(HKC.out.below bd).cell 1;have hr9:=row_keep HR8.out (w':=W9) fun k hk=>bd.block k (World.ownsRow.lt HR8.out k hk).2;have q9:=row_cellA hr9 (k*5+4) (by omega);have f9:=World.ownsRow.frozenAt hr9 (k*5+4);simp only [List.getElem?_cons_succ,List.getElem?_cons_zero] at y9;clear hr9;obtain ⟨u9,q9⟩:=q9)
    all_goals
     have hkk:=Hkk.out
     have hw8:=HW8.out
     have hs8:W8s.heap.size=W8.heap.size:=by rw [hw8];simp [World.setCell]
     change OwnV 3 W9 W8s.heap.size _ _ at o9
     rw [hs8] at bd o9
     rw [hw8] at bd
     subst hkk
     have MF:=Lib.hid (HM7.out.step (p0:=p0) Hp0.out Bd.out O8.out bd o9)
     clear bd o9 hw8 hs8 x4 y8
     go_wp2
     go_roundw
     case rel=>exact ⟨os1 ++ [(p0.1,⟨.slice A8 n1 d8, .slice A9 m1 d9⟩)],by rw [List.length_append,List.length_singleton];omega,by rw [List.length_append,List.length_singleton];go_num,by
      rw [List.map_append,Hos.out,List.length_append,List.length_singleton,take_snocI (show H.obs[os1.length]? = some p0.1 by rw [← Hmap.out,List.getElem?_map,Hp0.out];rfl)];rfl,MF.out⟩
     case measure=>simp [intOf];omega
  ·have hkn:k=n:=by omega
   subst hkn
   have hk2:=hkk.symm
   have hdr:os0.drop os1.length = []:=List.drop_eq_nil_of_le (by rw [hk2,Hol.out];exact Nat.le_refl _)
   have hrow:=M.row
   rw [hdr,List.append_nil] at hrow
   have hobs:H.obs=os1.map (·.1):=by rw [hos,List.take_of_length_le (by rw [← Hmap.out,List.length_map,Hol.out,hk2];exact Nat.le_refl _)]
   have HF:=Lib.hid (show CpAt wr w.heap.size (w.heap.size+1) ⟨A',k,c',F',m,d'⟩ os1 H from ⟨M.kc,⟨⟨by rw [hk2];exact row_mono hrow (by omega),fun p hp=>⟨(M.ints p hp).1.mono (by omega),(M.ints p hp).2.mono (by omega)⟩,M.apart⟩,hobs,M.fr.mono (by omega),HR.out.tp,HR.out.nx⟩,by omega⟩)
   have HB:=Lib.hid M.bel
   clear M hrow hobs hdr hos hk2 hkk hk
   go_wp2
   go_ret
   exact ⟨w.heap.size+1,_,os1,rfl,HF.out,HB.out⟩
end Go.Proofs.YtcodpnbemdflcaaGreatDoor

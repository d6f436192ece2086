/-
  What taking a block leaves: plain mathematics, no program.
  Taking a block, by the document: contract of Take.
  What giving a block back leaves: plain mathematics, no program.
  Giving a block back, by the document: contract of Give.
-/
import Derived.Test.YtcodpnbemdflcaaGreatDoorTg7
import Derived.Test.YtcodpnbemdflcaaGreatDoorTg9
import Derived.Deep.LoopGhost
import Derived.Lib.MinMax
namespace Go.Proofs.YtcodpnbemdflcaaGreatDoor
open Go.RowKit
def IsHalf (B:Blk) (t:Int) (c:Blk):Prop:=t≤c.2∧c.2 < B.2∧c.1=B.1+sz c.2
def Took (l:List Blk) (t:Int) (b:Blk) (m:List Blk):Prop :=
 ∃ B ∈ l,t≤B.2∧(∀ c ∈ l,t≤c.2→Lq B c)∧b=(B.1,t)∧m.Pairwise (fun x y=>x.1 < y.1) ∧ ∀ c,c ∈ m ↔ (c ∈ l∧c≠B)∨IsHalf B t c
theorem Lq.anti {a b:Blk} (h:Lq a b) (k:Lq b a):a=b:=by
 unfold Lq at *
 exact Prod.ext (by omega) (by omega)
theorem Took.eq {l m m':List Blk} {t:Int} {b b':Blk} (h:Took l t b m) (k:Took l t b' m'):b=b'∧m=m':=by
 obtain ⟨B,h1,h2,h3,rfl,h5,h6⟩:=h
 obtain ⟨C,k1,k2,k3,rfl,k5,k6⟩:=k
 obtain rfl:B=C:=(h3 C k1 k2).anti (k3 B h1 h2)
 exact ⟨rfl,rise_ext h5 k5 fun c=>by rw [h6,k6]⟩
theorem half_may {r t:Int} {B c:Blk} (hr:r≤8) (ht:0≤t) (hB:May r B) (h:IsHalf B t c):May r c∧B.1≤c.1∧c.1+sz c.2≤B.1+sz B.2∧twin c=(B.1,c.2)∧B.1+sz t≤c.1:=by
  obtain ⟨h1, h2, h3⟩ := h
  obtain ⟨k0, k1, k2, k3, k4⟩ := hB
  obtain ⟨y, p⟩ := B
  obtain ⟨x, o⟩ := c
  simp only at *
  subst h3
  unfold twin May
  simp only
  have hst := sz_le ht h1 (by omega)
  have hp := sz_pos o
  rcases ords (o := o) (by omega) (by omega) with h | h | h | h | h | h | h | h | h <;> subst h <;> rcases ords (o := p) (by omega) (by omega) with h | h | h | h | h | h | h | h | h <;> subst h <;>
    first
    | omega
    | (simp only [sz0, sz1, sz2, sz3, sz4, sz5, sz6, sz7, sz8] at *
       refine ⟨⟨by omega, by omega, by omega, by omega, by omega⟩, by omega, by omega, ?_, by omega⟩
       rw [if_neg (by omega)]
       simp)
theorem half_find {t:Int} (ht:0≤t) : ∀ (n:Nat) (y:Int),sz t≤y→y < sz (t+n) → ∃ k:Int,t≤k∧k < t+n∧sz k≤y∧y < 2*sz k
 | 0,y,h1,h2=>by simp at h2;omega
 | n+1,y,h1,h2=>by
  by_cases h:y < sz (t+n)
  ·obtain ⟨k,a,b,c⟩:=half_find ht n y h1 h
   exact ⟨k,a,by omega,c⟩
  ·refine ⟨t+n,by omega,by omega,by omega,?_⟩
   have:=sz_succ (o:=t+n) (by omega)
   rw [show t+((n+1:Nat):Int)=t+n+1 by omega,this] at h2
   exact h2
theorem Took.may {r t:Int} {l m:List Blk} {b:Blk} (hR:Right r l) (ht:0≤t) (h:Took l t b m):May r b∧b.2=t ∧ ∀ x,InB b x→Cov l x:=by
 obtain ⟨B,h1,h2,h3,rfl,h5,h6⟩:=h
 have hM:=hR.may h1
 have hr:=hR.1.2
 obtain ⟨k0,k1,k2,k3,k4⟩:=hM
 obtain ⟨y,p⟩:=B
 simp only at *
 have hst:=sz_le ht h2 (by omega)
 refine ⟨⟨ht,by omega,k2,by simp only;omega,?_⟩,trivial,fun x hx=>⟨(y,p),h1,hx.1,by have:=hx.2;simp only at this ⊢;omega⟩⟩
 simp only
 rcases ords (o:=t) ht (by omega) with h | h | h | h | h | h | h | h | h <;> subst h <;> rcases ords (o:=p) (by omega) (by omega) with h | h | h | h | h | h | h | h | h <;> subst h <;>
  first | omega | (simp only [sz0,sz1,sz2,sz3,sz4,sz5,sz6,sz7,sz8] at *;omega)
theorem Took.right {r t:Int} {l m:List Blk} {b:Blk} (hR:Right r l) (ht:0≤t) (h:Took l t b m):Right r m ∧ ∀ x,Cov m x ↔ Cov l x ∧ ¬ InB b x:=by
 obtain ⟨B,h1,h2,h3,rfl,h5,h6⟩:=h
 have hr:=hR.1.2
 have hMB:=hR.may h1
 have hin : ∀ c,IsHalf B t c→May r c∧B.1≤c.1∧c.1+sz c.2≤B.1+sz B.2∧twin c=(B.1,c.2)∧B.1+sz t≤c.1:=fun c hc=>half_may hr ht hMB hc
 -- what lies in B meets no other one
 have hapart : ∀ c d:Blk,c ∈ l→c≠B→(B.1≤d.1∧d.1+sz d.2≤B.1+sz B.2) → ¬ Meets c d:=fun c d hc hne hd hm=>by
  refine hne (hR.apart hc h1 ?_)
  have:=sz_pos d.2
  exact ⟨by have:=hm.1;have:=hm.2;omega,by have:=hm.1;have:=hm.2;omega⟩
 refine ⟨right_of hR.1 h5 (fun c hc => ?_) (fun a ha b hb hne hm => ?_) (fun a ha b hb hlt hbr htw => ?_),fun x => ?_⟩
 ·rcases (h6 c).1 hc with e | e
  ·exact hR.may e.1
  ·exact (hin c e).1
 ·rcases (h6 a).1 ha with e | e <;> rcases (h6 b).1 hb with f | f
  ·exact hne (hR.apart e.1 f.1 hm)
  ·exact hapart a b e.1 e.2 ⟨(hin b f).2.1,(hin b f).2.2.1⟩ hm
  ·exact hapart b a f.1 f.2 ⟨(hin a e).2.1,(hin a e).2.2.1⟩ hm.symm
  ·obtain ⟨e1,e2,e3⟩:=e
   obtain ⟨f1,f2,f3⟩:=f
   have hord:a.2≠b.2:=fun q=>hne (Prod.ext (by rw [e3,f3,q]) q)
   obtain ⟨m1,m2⟩:=hm
   rcases Int.lt_or_gt_of_ne hord with q | q
   ·have:=sz_le (o:=a.2+1) (p:=b.2) (by omega) (by omega) (by have:=hMB.2.1;omega)
    rw [sz_succ (by omega)] at this
    omega
   ·have:=sz_le (o:=b.2+1) (p:=a.2) (by omega) (by omega) (by have:=hMB.2.1;omega)
    rw [sz_succ (by omega)] at this
    omega
 ·have hord:b.2=a.2:=by rw [← htw,twin_ord]
  rcases (h6 a).1 ha with e | e <;> rcases (h6 b).1 hb with f | f
  ·exact hR.notwin e.1 f.1 hbr htw
  ·have q:=(hin b f).2.2.2.1
   rw [htw] at q
   have hB:=hin b f
   have:=sz_pos b.2
   have hlt2:=sz_le (o:=b.2) (p:=B.2) (hB.1.1) (by have:=f.2.1;omega) (by have:=hMB.2.1;omega)
   exact hapart a (B.1,b.2) e.1 e.2 ⟨by simp only;omega,by simp only;omega⟩ (by rw [q];exact ⟨by simp only;omega,by simp only;omega⟩)
  ·-- b is a's twin
   have q:=(hin a e).2.2.2.1
   have hMb:=hR.may f.1
   have hrr:b=twin a:=by
    rw [← htw]
    obtain ⟨x,o⟩:=b
    obtain ⟨j0,j1,j2,j3,j4⟩:=hMb
    simp only at *
    unfold twin
    simp only
    rcases ords (o:=o) (by omega) (by omega) with h | h | h | h | h | h | h | h | h <;> subst h <;> simp only [sz0,sz1,sz2,sz3,sz4,sz5,sz6,sz7,sz8] at * <;> split <;> simp only [sz0,sz1,sz2,sz3,sz4,sz5,sz6,sz7,sz8] <;> split <;> simp <;> omega
   rw [q] at hrr
   have:=(hin a e).2.1
   have h0:=e.2.2
   have:=sz_pos a.2
   rw [hrr] at hlt
   simp only at hlt
   omega
  ·have q:=e.2.2
   have q2:=f.2.2
   rw [hord] at q2
   omega
 ·constructor
  ·rintro ⟨c,hc,hx⟩
   rcases (h6 c).1 hc with e | e
   ·refine ⟨⟨c,e.1,hx⟩,fun hb=>e.2 ?_⟩
    have:=sz_le ht h2 (by have:=hMB.2.1;omega)
    exact hR.one e.1 h1 hx ⟨hb.1,by have:=hb.2;simp only at this;omega⟩
   ·have hh:=hin c e
    refine ⟨⟨B,h1,by have:=hx.1;omega,by have:=hx.2;omega⟩,fun hb => ?_⟩
    have:=hb.2
    have:=hx.1
    simp only at *
    omega
  ·rintro ⟨⟨c,hc,hx⟩,hb⟩
   by_cases e:c=B
   ·subst e
    have hk : ¬ x < c.1+sz t:=fun q=>hb ⟨hx.1,q⟩
    obtain ⟨n,hn⟩ : ∃ n:Nat,c.2=t+n:=⟨(c.2 - t).toNat,by omega⟩
    obtain ⟨k,k1,k2,k3,k4⟩:=half_find ht n (x - c.1) (by omega) (by rw [← hn];have:=hx.2;omega)
    exact ⟨(c.1+sz k,k),(h6 _).2 (.inr ⟨k1,by simp only;omega,rfl⟩),by simp only;omega,by simp only;omega⟩
   ·exact ⟨c,(h6 c).2 (.inl ⟨hc,e⟩),hx⟩
end Go.Proofs.YtcodpnbemdflcaaGreatDoor
namespace Go.Proofs.YtcodpnbemdflcaaGreatDoor
open Go.RowKit
def TakeRes (r:Int) (l:List Blk) (t:Int) (b:Blk) (m:List Blk) (er:Int):Prop :=
 (mayTk r l t=false∧b=(0,0)∧m = []∧er=1)∨(mayTk r l t=true∧roomB l t=false∧b=(0,0)∧m = []∧er=40)∨(mayTk r l t=true∧roomB l t=true∧er=0∧Took l t b m)
theorem TakeRes.eq {r t er er':Int} {l m m':List Blk} {b b':Blk} (h:TakeRes r l t b m er) (k:TakeRes r l t b' m' er'):b=b'∧m=m'∧er=er':=by
 rcases h with ⟨h1,h2,h3,h4⟩ | ⟨h1,h2,h3,h4,h5⟩ | ⟨h1,h2,h3,h4⟩ <;> rcases k with ⟨k1,k2,k3,k4⟩ | ⟨k1,k2,k3,k4,k5⟩ | ⟨k1,k2,k3,k4⟩ <;> simp_all
 exact h4.eq k4
def TakePost (w:World) (r:Int) (l:List Blk) (t:Int) (e:Ending) (w':World):Prop :=
 ∃ b m er v,e = .returned (.tuple #[bval b,v, .int .i64 er])∧TakeRes r l t b m er∧OwnB 57 w' w.heap.size v m∧Below w.heap.size w w'
theorem results_box3 {fn:Func} {p q u:Tmp} {b:Blk} (h:fn.results = #[.cell p 57, .tmp q, .tmp u]) (tmps:Array Value) (w:World) (k:Nat) (hp:tmps.getD p undef = .pointer (some ⟨k,0,none⟩))
  (c0:w.cell? ⟨k,0,none⟩=some (.int .i64 b.1)) (c1:w.cell? ⟨k,1,none⟩=some (.int .i64 b.2)):(results fn tmps).run Tryz.prog w = .ok (.tuple #[bval b,tmps.getD q undef,tmps.getD u undef]) w:=by
 have u':=Tryz.underlying57
 have z:=Tryz.sizeOf57
 have a:=Tryz.isAgg57
 have hp':tmps[p]?.getD undef = .pointer (some ⟨k,0,none⟩):=by simpa using hp
 simp only [results,h]
 simp [hp',asAddr,loadVar]
 go_simp
 rfl
def TkInv (l:List Blk) (B:Blk) (o:Int) (m:List Blk):Prop:=m.Pairwise (fun x y=>x.1 < y.1) ∧ ∀ c,c ∈ m ↔ (c ∈ l∧c≠B)∨IsHalf B o c
theorem TkInv.start {r:Int} {l:List Blk} {B:Blk} (h:Right r l):TkInv l B B.2 (woL l B):=by
 refine ⟨h.rise.sublist List.filter_sublist,fun c => ?_⟩
 rw [woL_mem]
 constructor
 ·exact fun h => .inl h
 ·rintro (h | h)
  ·exact h
  ·have:=h.1;have:=h.2.1;omega
theorem TkInv.step {r o:Int} {l m:List Blk} {B:Blk} (h:Right r l) (hB:B ∈ l) (ho:0 < o) (hoB:o≤B.2) (k:TkInv l B o m):TkInv l B (o - 1) (ins (B.1+sz (o - 1),o - 1) m):=by
 obtain ⟨k1,k2⟩:=k
 have hM:=h.may hB
 have hr:=h.1.2
 have hc:IsHalf B (o - 1) (B.1+sz (o - 1),o - 1):=⟨Int.le_refl _,by simp only;omega,rfl⟩
 have hh:=half_may hr (by omega) hM hc
 refine ⟨ins_rise k1 fun c hcm he => ?_,fun c => ?_⟩
 ·simp only at he
  rcases (k2 c).1 hcm with e | e
  ·refine e.2 (h.apart e.1 hB ?_)
   have h1:=hh.2.1
   have h2:=hh.2.2.1
   have h3:=sz_pos (o - 1)
   have h4:=sz_pos c.2
   simp only at h1 h2
   exact ⟨by omega,by omega⟩
  ·obtain ⟨e1,e2,e3⟩:=e
   have h1:=sz_le (o:=o - 1+1) (p:=c.2) (by omega) (by omega) (by have:=hM.2.1;omega)
   rw [sz_succ (by omega)] at h1
   have:=sz_pos (o - 1)
   omega
 ·rw [ins_mem,k2 c]
  constructor
  ·rintro (e | e | e)
   ·rw [e];exact .inr hc
   ·exact .inl e
   ·exact .inr ⟨by have:=e.1;omega,e.2.1,e.2.2⟩
  ·rintro (e | e)
   ·exact .inr (.inl e)
   ·by_cases q:c.2=o - 1
    ·refine .inl (Prod.ext ?_ q)
     rw [e.2.2,q]
    ·exact .inr (.inr ⟨by have:=e.1;omega,e.2.1,e.2.2⟩)
theorem refused_post {w w2:World} {r t:Int} {l:List Blk} {b:Blk} {er:Int} (hres:TakeRes r l t (0,0) [] er) (K:Whole w2 w.heap.size 57 [.int .i64 0, .int .i64 0]) (B:Below w.heap.size w w2) (_hb:b=(0,0)) :
  Whole ((w2.setCell ⟨w.heap.size,0,none⟩ (.int .i64 0)).setCell ⟨w.heap.size,1,none⟩ (.int .i64 0)) w.heap.size 57 [.int .i64 0, .int .i64 0] ∧
  TakePost w r l t (.returned (.tuple #[bval (0,0), .slice none 0 0, .int .i64 er])) ((w2.setCell ⟨w.heap.size,0,none⟩ (.int .i64 0)).setCell ⟨w.heap.size,1,none⟩ (.int .i64 0)) :=
 ⟨(K.set 0 (.int .i64 0)).set 1 (.int .i64 0),(0,0), [],er,_,rfl,hres,OwnB.nil,below_grown B (grown_trans (grown_set w2 w.heap.size 0 _) (grown_set _ w.heap.size 1 _)) B.size (Nat.le_refl _)⟩
end Go.Proofs.YtcodpnbemdflcaaGreatDoor
namespace Go.Proofs.YtcodpnbemdflcaaGreatDoor
open Go.RowKit
def Gave (r:Int) (l:List Blk) (b:Blk) (m:List Blk):Prop:=Right r m ∧ ∀ x,Cov m x ↔ Cov l x∨InB b x
theorem Gave.eq {r:Int} {l m m':List Blk} {b:Blk} (h:Gave r l b m) (k:Gave r l b m'):m=m':=canon h.1 k.1 fun x=>by rw [h.2,k.2]
def Fits (r:Int) (l:List Blk) (b:Blk):Prop:=May r b ∧ ∀ a ∈ l, ¬ Meets b a
instance (r:Int) (l:List Blk) (b:Blk):Decidable (Fits r l b):=by unfold Fits;infer_instance
def merged (b:Blk):Blk:=(min b.1 (twin b).1,b.2+1)
theorem twin_may {r:Int} {b:Blk} (hr:r≤8) (h:May r b) (hb:b.2 < r):May r (twin b)∧May r (merged b)∧(∀ x,InB (merged b) x ↔ InB b x∨InB (twin b) x) ∧ ¬ Meets b (twin b):=by
 obtain ⟨x,o⟩:=b
 obtain ⟨k0,k1,k2,k3,k4⟩:=h
 simp only at *
 have hle:=sz_le (o:=o+1) (p:=r) (by omega) (by omega) hr
 have hs:=sz_succ k0
 -- the region's size is a multiple of twice the block's
 have hmul:sz r % sz (o+1)=0:=by
  rcases ords (o:=o) k0 (by omega) with h | h | h | h | h | h | h | h | h <;> subst h <;> rcases ords (o:=r) (by omega) hr with h | h | h | h | h | h | h | h | h <;> subst h <;>
   first | omega | (simp only [sz1,sz2,sz3,sz4,sz5,sz6,sz7,sz8];decide)
 obtain ⟨R,hR⟩ : ∃ R,R=sz r:=⟨_,rfl⟩
 rw [← hR] at k3 hle hmul
 unfold May merged twin Meets InB
 simp only
 rw [← hR]
 rw [hs] at hmul hle ⊢
 rcases ords (o:=o) k0 (by omega) with h | h | h | h | h | h | h | h | h <;> subst h <;> simp only [sz0,sz1,sz2,sz3,sz4,sz5,sz6,sz7,sz8] at * <;> split <;> simp only [sz0,sz1,sz2,sz3,sz4,sz5,sz6,sz7,sz8] <;>
  (refine ⟨⟨by omega,by omega,by omega,by omega,by omega⟩,⟨by omega,by omega,by omega,by omega,by omega⟩,fun y => ?_,by omega⟩;omega)
theorem merged_ord (b:Blk):(merged b).2=b.2+1:=rfl
structure GvInv (r:Int) (l:List Blk) (b0:Blk) (out:List Blk) (b:Blk):Prop where
 right:Right r out
 fits:Fits r out b
 cov : ∀ x,(Cov out x∨InB b x) ↔ (Cov l x∨InB b0 x)
theorem GvInv.start {r:Int} {l:List Blk} {b:Blk} (h:Right r l) (hf:Fits r l b):GvInv r l b l b:=⟨h,hf,fun _=>Iff.rfl⟩
theorem GvInv.step {r:Int} {l out:List Blk} {b0 b:Blk} (h:GvInv r l b0 out b) (hb:b.2 < r) (ht:twin b ∈ out):GvInv r l b0 (woL out (twin b)) (merged b):=by
 obtain ⟨t1,t2,t3,t4⟩:=twin_may h.right.1.2 h.fits.1 hb
 refine ⟨h.right.sub List.filter_sublist,⟨t2,fun a ha hm => ?_⟩,fun x => ?_⟩
 ·obtain ⟨h1,h2⟩:=woL_mem.1 ha
  have hMa:=h.right.may h1
  -- a word in both
  have hpa:=sz_pos a.2
  have hpm:=sz_pos (merged b).2
  obtain ⟨y,hy1,hy2⟩ : ∃ y,InB (merged b) y∧InB a y:=⟨max (merged b).1 a.1,by unfold InB;have:=hm.1;have:=hm.2;omega,by unfold InB;have:=hm.1;have:=hm.2;omega⟩
  rcases (t3 y).1 hy1 with e | e
  ·exact h.fits.2 a h1 (meets_of e hy2)
  ·exact h2 (h.right.one h1 ht hy2 e)
 ·rw [← h.cov x,t3 x]
  constructor
  ·rintro (⟨a,ha,hx⟩ | hx | hx)
   ·exact .inl ⟨a,(woL_mem.1 ha).1,hx⟩
   ·exact .inr hx
   ·exact .inl ⟨_,ht,hx⟩
  ·rintro (⟨a,ha,hx⟩ | hx)
   ·by_cases e:a=twin b
    ·subst e;exact .inr (.inr hx)
    ·exact .inl ⟨a,woL_mem.2 ⟨ha,e⟩,hx⟩
   ·exact .inr (.inl hx)
theorem right_ins {r:Int} {l m:List Blk} {b:Blk} (h:Right r l) (hf:Fits r l b) (ht:b.2 < r→twin b ∉ l) (hm:m.Pairwise (fun x y=>x.1 < y.1)) (hmem : ∀ c,c ∈ m ↔ c=b∨c ∈ l):Gave r l b m:=by
 have hr8:=h.1.2
 refine ⟨right_of h.1 hm (fun c hc => ?_) (fun a ha c hc hne hmt => ?_) (fun a ha c hc hlt hcr htw => ?_),fun x => ?_⟩
 ·rcases (hmem c).1 hc with e | e
  ·rw [e];exact hf.1
  ·exact h.may e
 ·rcases (hmem a).1 ha with e | e <;> rcases (hmem c).1 hc with f | f
  ·exact hne (e.trans f.symm)
  ·rw [e] at hmt;exact hf.2 c f hmt
  ·rw [f] at hmt;exact hf.2 a e hmt.symm
  ·exact hne (h.apart e f hmt)
 ·rcases (hmem a).1 ha with e | e <;> rcases (hmem c).1 hc with f | f
  ·rw [e,f] at hlt;omega
  ·-- c's twin is b
   refine ht (by rw [← e, ← htw,twin_ord];exact hcr) ?_
   rw [← e, ← htw,twin_twin hr8 (h.may f)]
   exact f
  ·refine ht (by rw [← f];exact hcr) ?_
   rw [← f,htw]
   exact e
  ·exact h.notwin e f hcr htw
 ·constructor
  ·rintro ⟨c,hc,hx⟩
   rcases (hmem c).1 hc with e | e
   ·rw [e] at hx;exact .inr hx
   ·exact .inl ⟨c,e,hx⟩
  ·rintro (⟨c,hc,hx⟩ | hx)
   ·exact ⟨c,(hmem c).2 (.inr hc),hx⟩
   ·exact ⟨b,(hmem b).2 (.inl rfl),hx⟩
theorem fits_ne {r:Int} {l:List Blk} {b:Blk} (hf:Fits r l b) : ∀ c ∈ l,c.1≠b.1:=fun c hc e=>hf.2 c hc (by
 have h1:=sz_pos c.2
 have h2:=sz_pos b.2
 exact ⟨by omega,by omega⟩)
theorem GvInv.done {r:Int} {l out:List Blk} {b0 b:Blk} (h:GvInv r l b0 out b) (ht:b.2 < r→twin b ∉ out):Gave r l b0 (ins b out):=by
 obtain ⟨h1,h2⟩:=right_ins h.right h.fits ht (ins_rise h.right.rise (fits_ne h.fits)) (fun c=>ins_mem)
 exact ⟨h1,fun x=>by rw [h2,h.cov]⟩
structure JnInv (r:Int) (l:List Blk) (b0:Blk) (J H:List Blk):Prop where
 reg:3≤r∧r≤8
 may : ∀ c ∈ J++H,May r c
 apart:(J++H).Pairwise (fun a c => ¬ Meets a c)
 sorted:J.Pairwise Lq
 ahead : ∀ a ∈ J, ∀ c ∈ H,Lq a c
 notwin : ∀ a ∈ J, ∀ c ∈ J,c.2 < r→twin c≠a
 cov : ∀ x,Cov (J++H) x ↔ (Cov l x∨InB b0 x)
theorem perm_cov {l m:List Blk} (h:l.Perm m) (x:Int):Cov l x ↔ Cov m x :=
 ⟨fun ⟨c,hc,hx⟩=>⟨c,h.mem_iff.1 hc,hx⟩,fun ⟨c,hc,hx⟩=>⟨c,h.mem_iff.2 hc,hx⟩⟩
theorem meets_symm : ∀ {a b:Blk}, ¬ Meets a b → ¬ Meets b a:=fun h k=>h k.symm
theorem perm_apart {l m:List Blk} (h:l.Perm m) (hl:l.Pairwise (fun a c => ¬ Meets a c)):m.Pairwise (fun a c => ¬ Meets a c):=h.pairwise hl (fun h=>meets_symm h)
theorem apart_mem {l:List Blk} (h:l.Pairwise (fun a c => ¬ Meets a c)) {a c:Blk} (ha:a ∈ l) (hc:c ∈ l) (hm:Meets a c):a=c:=by
 rcases pw_mem h ha hc with e | e | e
 ·exact e
 ·exact absurd hm e
 ·exact absurd hm.symm e
theorem JnInv.start {r:Int} {l H:List Blk} {b:Blk} (h:Right r l) (hf:Fits r l b) (hp:H.Perm (l ++ [b])):JnInv r l b [] H:=by
 refine ⟨h.1,fun c hc => ?_,?_,List.Pairwise.nil,(fun a ha=>by cases ha),(fun a ha=>by cases ha),fun x => ?_⟩
 ·rcases List.mem_append.1 (hp.mem_iff.1 hc) with e | e
  ·exact h.may e
  ·rw [List.mem_singleton.1 e];exact hf.1
 ·refine perm_apart hp.symm ?_
  rw [List.pairwise_append]
  exact ⟨h.2.2.imp fun q=>meets_symm q.2.1,List.pairwise_singleton _ _,fun a ha c hc=>by rw [List.mem_singleton.1 hc];exact meets_symm (hf.2 a ha)⟩
 ·rw [List.nil_append,perm_cov hp,cov_snoc]
theorem JnInv.push {r:Int} {l J H H':List Blk} {b0 b:Blk} (h:JnInv r l b0 J H) (hp:(b :: H').Perm H) (hmin : ∀ c ∈ H',Lq b c) (hlast : ∀ z,J.getLast? = some z→z≠twin b):JnInv r l b0 (J ++ [b]) H':=by
 have hperm:((J ++ [b])++H').Perm (J++H):=by
  rw [List.append_assoc]
  exact List.Perm.append_left J hp
 have hbH:b ∈ H:=hp.mem_iff.1 (List.mem_cons_self ..)
 have hMb:=h.may b (List.mem_append_right _ hbH)
 have key : ∀ a ∈ J,twin b≠a:=fun a ha he=>by
  obtain ⟨z,hz⟩ : ∃ z,J.getLast? = some z:=by
   cases e:J.getLast? with
   | none=>rw [List.getLast?_eq_none_iff] at e;subst e;cases ha
   | some z=>exact ⟨z,rfl⟩
  have hzJ:=last_mem hz
  have hab:=h.ahead a ha b hbH
  have hzb:=h.ahead z hzJ b hbH
  have haz:Lq a z:=by
   obtain ⟨J',rfl⟩:=List.getLast?_eq_some_iff.1 hz
   have hs:=h.sorted
   rw [List.pairwise_append] at hs
   rcases List.mem_append.1 ha with e | e
   ·exact hs.2.2 a e z (by simp)
   ·rw [List.mem_singleton.1 e];exact Lq.refl _
  have hord:a.2=b.2:=by rw [← he,twin_ord]
  have hp:=sz_pos b.2
  have ha1:a.1+sz b.2=b.1:=by
   have:=congrArg Prod.fst he
   unfold twin at this
   unfold Lq at hab
   split at this <;> simp only at this <;> omega
  have hzo:z.2=b.2∧a.1≤z.1∧z.1≤b.1:=by unfold Lq at haz hzb;omega
  have hzne:z.1≠b.1:=fun e=>by
   have hm:Meets z b:=⟨by omega,by rw [hzo.1];omega⟩
   have hh:=h.apart
   rw [List.pairwise_append] at hh
   exact hh.2.2 z hzJ b hbH hm
  have hza:z=a:=by
   have hm:Meets z a:=⟨by rw [hord];omega,by rw [hzo.1];omega⟩
   exact apart_mem h.apart (List.mem_append_left _ hzJ) (List.mem_append_left _ ha) hm
  exact hlast z hz (hza.trans he.symm)
 refine ⟨h.reg,fun c hc=>h.may c (hperm.mem_iff.1 hc),perm_apart hperm.symm h.apart,?_,fun a ha c hc => ?_,fun a ha c hc hcr he => ?_,fun x=>by rw [perm_cov hperm,h.cov]⟩
 ·rw [List.pairwise_append]
  exact ⟨h.sorted,List.pairwise_singleton _ _,fun a ha c hc=>by rw [List.mem_singleton.1 hc];exact h.ahead a ha b hbH⟩
 ·rcases List.mem_append.1 ha with e | e
  ·exact h.ahead a e c (hp.mem_iff.1 (List.mem_cons_of_mem _ hc))
  ·rw [List.mem_singleton.1 e];exact hmin c hc
 ·rcases List.mem_append.1 ha with e | e <;> rcases List.mem_append.1 hc with f | f
  ·exact h.notwin a e c f hcr he
  ·rw [List.mem_singleton.1 f] at he;exact key a e he
  ·rw [List.mem_singleton.1 e] at he
   refine key c f ?_
   rw [← he,twin_twin h.reg.2 (h.may c (List.mem_append_left _ f))]
  ·rw [List.mem_singleton.1 e,List.mem_singleton.1 f] at he
   have:=congrArg Prod.fst he
   have hp:=sz_pos b.2
   unfold twin at this
   split at this <;> simp only at this <;> omega
theorem JnInv.merge {r:Int} {l J H H' H2:List Blk} {b0 b z:Blk} (h:JnInv r l b0 (J ++ [z]) H) (hp:(b :: H').Perm H) (hmin : ∀ c ∈ H',Lq b c) (hz:z=twin b) (hp2:H2.Perm (H' ++ [(z.1,b.2+1)])):JnInv r l b0 J H2∧(z.1,b.2+1)=merged b∧b.2 < r:=by
 have hbH:b ∈ H:=hp.mem_iff.1 (List.mem_cons_self ..)
 have hMb:=h.may b (List.mem_append_right _ hbH)
 have hMz:=h.may z (List.mem_append_left _ (by simp))
 have hzb:=h.ahead z (by simp) b hbH
 have hps:=sz_pos b.2
 have hbr:b.2 < r:=by
  rcases Int.lt_or_le b.2 r with e | e
  ·exact e
  ·exfalso
   have h1:=hMb.2.1
   have e1:b.2=r:=by omega
   have h2:=hMz.2.2.2.1
   have h3:=hMb.2.2.2.1
   have h4:=hMz.2.2.1
   have h5:=hMb.2.2.1
   rw [hz,twin_ord] at h2
   rw [hz] at h4
   unfold twin at h2 h4
   rw [e1] at h2 h3 h4 hps
   split at h2 <;> simp only at h2 h4 <;> simp_all <;> omega
 obtain ⟨t1,t2,t3,t4⟩:=twin_may h.reg.2 hMb hbr
 have hz1:z.1 < b.1:=by
  have:=congrArg Prod.fst hz
  have ho:z.2=b.2:=by rw [hz,twin_ord]
  unfold twin at this
  unfold Lq at hzb
  split at this <;> simp only at this <;> omega
 have hmg:(z.1,b.2+1)=merged b:=by
  unfold merged
  rw [← hz]
  exact Prod.ext (by simp only;omega) rfl
 have hall:(J++H2).Perm (J++(H' ++ [merged b])):=by rw [← hmg];exact List.Perm.append_left J hp2
 have hold:((J ++ [z])++(b :: H')).Perm ((J ++ [z])++H):=List.Perm.append_left _ hp
 have hap:=perm_apart hold.symm h.apart
 have hmemJ : ∀ c ∈ J,c ∈ (J ++ [z])++(b :: H'):=fun c hc=>by simp [hc]
 have hmemH : ∀ c ∈ H',c ∈ (J ++ [z])++(b :: H'):=fun c hc=>by simp [hc]
 have hmz:z ∈ (J ++ [z])++(b :: H'):=by simp
 have hmb:b ∈ (J ++ [z])++(b :: H'):=by simp
 have hsub:(J++H').Sublist ((J ++ [z])++(b :: H')):=by
  rw [List.append_assoc]
  exact List.Sublist.append_left (by exact (List.sublist_cons_self b H').trans (List.sublist_append_right [z] _)) J
 have hnm : ∀ c ∈ J++H', ¬ Meets c (merged b):=fun c hc hm=>by
  have hp1:=sz_pos c.2
  have hp2':=sz_pos (merged b).2
  obtain ⟨y,hy1,hy2⟩ : ∃ y,InB (merged b) y∧InB c y:=⟨max (merged b).1 c.1,by unfold InB;have:=hm.1;have:=hm.2;omega,by unfold InB;have:=hm.1;have:=hm.2;omega⟩
  have hpw:=hap
  rw [List.append_assoc,List.pairwise_append] at hpw
  obtain ⟨_,q2,q3⟩:=hpw
  rw [List.singleton_append,List.pairwise_cons,List.pairwise_cons] at q2
  rcases List.mem_append.1 hc with e | e
  ·rcases (t3 y).1 hy1 with f | f
   ·exact q3 c e b (by simp) (meets_of hy2 f)
   ·exact q3 c e z (by simp) (meets_of hy2 (by rw [hz];exact f))
  ·rcases (t3 y).1 hy1 with f | f
   ·exact q2.2.1 c e (meets_of f hy2)
   ·exact q2.1 c (List.mem_cons_of_mem _ e) (meets_of (by rw [hz];exact f) hy2)
 refine ⟨⟨h.reg,fun c hc => ?_,?_,?_,fun a ha c hc => ?_,fun a ha c hc=>h.notwin a (List.mem_append_left _ ha) c (List.mem_append_left _ hc),fun x => ?_⟩,hmg,hbr⟩
 ·have:=hall.mem_iff.1 hc
  rw [← List.append_assoc] at this
  rcases List.mem_append.1 this with e | e
  ·exact h.may c (hold.mem_iff.1 (hsub.mem e))
  ·rw [List.mem_singleton.1 e];exact t2
 ·refine perm_apart hall.symm ?_
  rw [← List.append_assoc,List.pairwise_append]
  exact ⟨hap.sublist hsub,List.pairwise_singleton _ _,fun a ha c hc=>by rw [List.mem_singleton.1 hc];exact hnm a ha⟩
 ·have:=h.sorted
  rw [List.pairwise_append] at this
  exact this.1
 ·have hJb:Lq a b:=h.ahead a (List.mem_append_left _ ha) b hbH
  rcases List.mem_append.1 (hp2.mem_iff.1 hc) with e | e
  ·exact hJb.trans (hmin c e)
  ·rw [List.mem_singleton.1 e]
   unfold Lq at hJb ⊢
   simp only
   omega
 ·rw [perm_cov hall, ← List.append_assoc,cov_snoc,t3, ← h.cov x, ← perm_cov hold x]
  constructor
  ·rintro (⟨c,hc,hx⟩ | hx | hx)
   ·exact ⟨c,hsub.mem hc,hx⟩
   ·exact ⟨b,hmb,hx⟩
   ·exact ⟨z,hmz,by rw [hz];exact hx⟩
  ·rintro ⟨c,hc,hx⟩
   rw [List.append_assoc] at hc
   rcases List.mem_append.1 hc with e | e
   ·exact .inl ⟨c,List.mem_append_left _ e,hx⟩
   ·rcases List.mem_append.1 e with e | e
    ·rw [List.mem_singleton.1 e,hz] at hx;exact .inr (.inr hx)
    ·rcases List.mem_cons.1 e with e | e
     ·rw [e] at hx;exact .inr (.inl hx)
     ·exact .inl ⟨c,List.mem_append_right _ e,hx⟩
theorem JnInv.done {r:Int} {l J m:List Blk} {b0:Blk} (h:JnInv r l b0 J []) (hp:m.Perm J) (hm:m.Pairwise (fun x y=>x.1≤y.1)):Gave r l b0 m:=by
 have hap:=h.apart
 rw [List.append_nil] at hap
 have hapm:=perm_apart hp.symm hap
 refine ⟨right_of h.reg ?_ (fun c hc=>h.may c (by rw [List.append_nil];exact hp.mem_iff.1 hc)) (fun a ha c hc hne hmt=>hne (apart_mem hap (hp.mem_iff.1 ha) (hp.mem_iff.1 hc) hmt)) (fun a ha c hc _ hcr=>h.notwin a (hp.mem_iff.1 ha) c (hp.mem_iff.1 hc) hcr),fun x => ?_⟩
 ·have hboth:=hm.and hapm
  exact hboth.imp fun {a c} q=>by
   rcases Int.lt_or_eq_of_le q.1 with e | e
   ·exact e
   ·exfalso
    refine q.2 ?_
    have h1:=sz_pos a.2
    have h2:=sz_pos c.2
    exact ⟨by omega,by omega⟩
 ·rw [perm_cov hp, ← h.cov x,List.append_nil]
end Go.Proofs.YtcodpnbemdflcaaGreatDoor
namespace Go.Proofs.YtcodpnbemdflcaaGreatDoor
open Go.RowKit
def GiveRes (r:Int) (l:List Blk) (b:Blk) (m:List Blk) (er:Int):Prop :=
 (¬ Right r l∧m = []∧er=1)∨(Right r l ∧ ¬ Fits r l b∧m = []∧er=41)∨(Right r l∧Fits r l b∧er=0∧Gave r l b m)
theorem GiveRes.eq {r er er':Int} {l m m':List Blk} {b:Blk} (h:GiveRes r l b m er) (k:GiveRes r l b m' er'):m=m'∧er=er':=by
 rcases h with ⟨h1,h2,h3⟩ | ⟨h1,h2,h3,h4⟩ | ⟨h1,h2,h3,h4⟩ <;> rcases k with ⟨k1,k2,k3⟩ | ⟨k1,k2,k3,k4⟩ | ⟨k1,k2,k3,k4⟩ <;> simp_all
 exact h4.eq k4
def GivePost (w:World) (r:Int) (l:List Blk) (b:Blk) (e:Ending) (w':World):Prop :=
 ∃ m er v,e = .returned (.tuple #[v, .int .i64 er])∧GiveRes r l b m er∧OwnB 57 w' w.heap.size v m∧Below w.heap.size w w'
theorem GivePost.nil {w w':World} {r er:Int} {l:List Blk} {b:Blk} (h:GiveRes r l b [] er) (B:Below w.heap.size w w'):GivePost w r l b (.returned (.tuple #[.slice none 0 0, .int .i64 er])) w':=⟨[],er,_,rfl,h,OwnB.nil,B⟩
theorem may_box {r:Int} {b:Blk} (hr:r≤8) (h:May r b):(0≤b.2∧b.2≤8)∧(0≤b.1∧b.1≤256):=by
 obtain ⟨k0,k1,k2,k3,k4⟩:=h
 have:=sz_pos b.2
 have:=sz_le256 (o:=r) (by omega) hr
 exact ⟨⟨k0,by omega⟩,k2,by omega⟩
end Go.Proofs.YtcodpnbemdflcaaGreatDoor

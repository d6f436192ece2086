/-
  Blocks of a region: plain mathematics, no program. Rows of free blocks that are right; the words that they have; that the words tell the blocks; what taking and giving back leave.
  Words for rows of structs of two integers (blocks) in memory: a slice that reads as blocks, a slice of blocks of the call's own; append of one, of a row, a store, a cut. Plain lemmas over any program.
  What the small functions of the region do, the program's and the document's: sizes, whether a block may be, twins: contracts, one a function.
  Heaps of blocks by order and place: plain mathematics, no program.
  What the functions of the region that take blocks by value do, the program's and the document's: whether a block may be, meets another one, its twin: contracts, one a function.
  What more functions of the region do: blocks that are compared, whether one may be (the document's), may follow another one, is all taken: contracts, one a function.
  Which rows of free blocks are right, told block by block by a map of their words: plain mathematics, no program.
  Which words are free, and whether free blocks are right: contracts of freeWords and Check.
-/
import Derived.Test.YtcodpnbemdflcaaGreatDoorTg1
import Derived.Lib.SliceRun
import Derived.Test.YtcodpnbemdflcaaGreatDoorTg6
import Derived.Laws.ShiftsVarLaws
import Derived.BigQuiet
import Derived.Deep.QuietTactic
import Derived.Shelf.SlSortCmp.QuietGrown
import Derived.Laws.StructEq
import Derived.Lib.Hide
namespace Go.Proofs.YtcodpnbemdflcaaGreatDoor
open Go.RowKit
abbrev Blk:=Int × Int
def sz (o:Int):Int:=2 ^ o.toNat
theorem sz0:sz 0=1:=by decide
theorem sz1:sz 1=2:=by decide
theorem sz2:sz 2=4:=by decide
theorem sz3:sz 3=8:=by decide
theorem sz4:sz 4=16:=by decide
theorem sz5:sz 5=32:=by decide
theorem sz6:sz 6=64:=by decide
theorem sz7:sz 7=128:=by decide
theorem sz8:sz 8=256:=by decide
theorem ords {o:Int} (h:0≤o) (h8:o≤8):o=0∨o=1∨o=2∨o=3∨o=4∨o=5∨o=6∨o=7∨o=8:=by omega
theorem sz_pos (o:Int):0 < sz o:=by
 unfold sz
 exact_mod_cast Nat.pow_pos (n:=o.toNat) (show 0 < 2 by decide)
theorem sz_succ {o:Int} (h:0≤o):sz (o+1)=2*sz o:=by
 unfold sz
 rw [show (o+1).toNat=o.toNat+1 by omega,Int.pow_succ]
 omega
theorem sz_le {o p:Int} (h:0≤o) (hp:o≤p) (h8:p≤8):sz o≤sz p:=by
 rcases ords (o:=o) h (by omega) with h | h | h | h | h | h | h | h | h <;> subst h <;> rcases ords (o:=p) (by omega) h8 with h | h | h | h | h | h | h | h | h <;> subst h <;>
  first | omega | (simp only [sz0,sz1,sz2,sz3,sz4,sz5,sz6,sz7,sz8];omega)
theorem sz_le256 {o:Int} (h:0≤o) (h8:o≤8):sz o≤256:=by
 have:=sz_le h h8 (Int.le_refl 8)
 rwa [sz8] at this
theorem sz_inj {o p:Int} (h:0≤o) (h8:o≤8) (hp:0≤p) (hp8:p≤8) (he:sz o≤sz p):o≤p:=by
 rcases ords h h8 with h | h | h | h | h | h | h | h | h <;> subst h <;> rcases ords hp hp8 with h | h | h | h | h | h | h | h | h <;> subst h <;>
  first | omega | (simp only [sz0,sz1,sz2,sz3,sz4,sz5,sz6,sz7,sz8] at he;omega)
def May (r:Int) (b:Blk):Prop:=0≤b.2∧b.2≤r∧0≤b.1∧b.1≤sz r - sz b.2∧b.1 % sz b.2=0
instance (r:Int) (b:Blk):Decidable (May r b):=by unfold May;infer_instance
def Meets (a b:Blk):Prop:=a.1 < b.1+sz b.2∧b.1 < a.1+sz a.2
instance (a b:Blk):Decidable (Meets a b):=by unfold Meets;infer_instance
theorem Meets.symm {a b:Blk} (h:Meets a b):Meets b a:=⟨h.2,h.1⟩
def twin (b:Blk):Blk:=if b.1 % (2*sz b.2)=0 then (b.1+sz b.2,b.2) else (b.1 - sz b.2,b.2)
theorem twin_ord (b:Blk):(twin b).2=b.2:=by unfold twin;split <;> rfl
def Ahd (r:Int) (a b:Blk):Prop:=a.1 < b.1 ∧ ¬ Meets b a ∧ ¬ (b.2 < r∧twin b=a)
instance (r:Int) (a b:Blk):Decidable (Ahd r a b):=by unfold Ahd;infer_instance
def Right (r:Int) (l:List Blk):Prop:=(3≤r∧r≤8)∧(∀ b ∈ l,May r b)∧l.Pairwise (Ahd r)
instance (r:Int) (l:List Blk):Decidable (Right r l):=by unfold Right;infer_instance
def InB (b:Blk) (x:Int):Prop:=b.1≤x∧x < b.1+sz b.2
def Cov (l:List Blk) (x:Int):Prop := ∃ b ∈ l,InB b x
theorem pw_mem {α:Type} {R:α→α→Prop} : ∀ {l:List α},l.Pairwise R → ∀ {a b:α},a ∈ l→b ∈ l→a=b∨R a b∨R b a
 | [],_,_,_,ha,_=>by cases ha
 | c :: t,h,a,b,ha,hb=>by
  rw [List.pairwise_cons] at h
  rcases List.mem_cons.1 ha with ea | ha'
  ·rcases List.mem_cons.1 hb with eb | hb'
   ·exact .inl (ea.trans eb.symm)
   ·exact .inr (.inl (ea ▸ h.1 _ hb'))
  ·rcases List.mem_cons.1 hb with eb | hb'
   ·exact .inr (.inr (eb ▸ h.1 _ ha'))
   ·exact pw_mem h.2 ha' hb'
theorem nest {a b:Blk} (ha:0≤a.2) (hab:a.2≤b.2) (hb:b.2≤8) (ma:a.1 % sz a.2=0) (mb:b.1 % sz b.2=0) (h:Meets a b):b.1≤a.1∧a.1+sz a.2≤b.1+sz b.2:=by
 obtain ⟨x,o⟩:=a
 obtain ⟨y,p⟩:=b
 obtain ⟨h1,h2⟩:=h
 simp only at *
 rcases ords ha (by omega) with h | h | h | h | h | h | h | h | h <;> subst h <;> rcases ords (o:=p) (by omega) hb with h | h | h | h | h | h | h | h | h <;> subst h <;>
  first | omega | (simp only [sz0,sz1,sz2,sz3,sz4,sz5,sz6,sz7,sz8] at *;omega)
theorem meets_of {a b:Blk} {x:Int} (h:InB a x) (k:InB b x):Meets a b:=by
 obtain ⟨h1,h2⟩:=h
 obtain ⟨k1,k2⟩:=k
 exact ⟨by omega,by omega⟩
theorem self_in (b:Blk):InB b b.1:=by
 have:=sz_pos b.2
 exact ⟨by omega,by omega⟩
section
variable {r:Int} {l m:List Blk}
theorem Right.apart (h:Right r l) {a b:Blk} (ha:a ∈ l) (hb:b ∈ l) (hm:Meets a b):a=b:=by
 rcases pw_mem h.2.2 ha hb with h | h | h
 ·exact h
 ·exact absurd hm.symm h.2.1
 ·exact absurd hm h.2.1
theorem Right.may (h:Right r l) {a:Blk} (ha:a ∈ l):May r a:=h.2.1 a ha
theorem Right.one (h:Right r l) {a b:Blk} (ha:a ∈ l) (hb:b ∈ l) {x:Int} (hx:InB a x) (hy:InB b x):a=b:=h.apart ha hb (meets_of hx hy)
theorem Right.sub (h:Right r l) (hs:m.Sublist l):Right r m:=⟨h.1,fun b hb=>h.2.1 b (hs.mem hb),h.2.2.sublist hs⟩
theorem Right.notwin (h:Right r l) {a b:Blk} (ha:a ∈ l) (hb:b ∈ l) (hr:b.2 < r):twin b≠a:=by
 intro he
 have h1:=h.may hb
 have hp:=sz_pos b.2
 rcases pw_mem h.2.2 ha hb with e | e | e
 ·subst e
  have:=congrArg Prod.fst he
  unfold twin at this
  split at this <;> simp at this <;> omega
 ·exact e.2.2 ⟨hr,he⟩
 ·refine e.2.2 ⟨by rw [← he,twin_ord];exact hr,?_⟩
  rw [← he]
  obtain ⟨x,o⟩:=b
  obtain ⟨k0,k1,k2,k3,k4⟩:=h1
  have hr8:=h.1.2
  simp only at *
  unfold twin
  simp only
  rcases ords k0 (by omega) with h | h | h | h | h | h | h | h | h <;> subst h <;> simp only [sz0,sz1,sz2,sz3,sz4,sz5,sz6,sz7,sz8] at * <;> split <;> simp only [sz0,sz1,sz2,sz3,sz4,sz5,sz6,sz7,sz8] <;> split <;> simp <;> omega
theorem sub_eq {b D:Blk} (hb:0≤b.2) (hbD:b.2≤D.2) (hD:D.2≤8) (h1:b.1≤D.1) (h2:D.1+sz D.2≤b.1+sz b.2):b=D:=by
 have h3:=sz_le hb hbD hD
 have h4:D.2≤b.2:=sz_inj (by omega) hD hb (by omega) (by omega)
 have h5:b.2=D.2:=by omega
 rw [h5] at h2 h3
 exact Prod.ext (by omega) h5
theorem full (h:Right r l) : ∀ (k:Nat) (D:Blk),D.2=(k:Int)→D.2≤r→D.1 % sz D.2=0→(∀ x,InB D x→Cov l x) → ∃ b ∈ l,b.1≤D.1∧D.1+sz D.2≤b.1+sz b.2
 | 0,D,hk,hr,hm,hc=>by
  obtain ⟨b,hb,h1,h2⟩:=hc D.1 (self_in D)
  refine ⟨b,hb,h1,?_⟩
  rw [hk,show sz ((0:Nat):Int)=1 from sz0]
  omega
 | k+1,D,hk,hr,hm,hc=>by
  have hr8:=h.1.2
  have hs:sz D.2=2*sz (k:Int):=by rw [hk, ← sz_succ (by omega)];rfl
  have hp:=sz_pos (k:Int)
  have m1:D.1 % sz (k:Int)=0∧(D.1+sz (k:Int)) % sz (k:Int)=0:=by
   rw [hs] at hm
   rcases ords (o:=(k:Int)) (by omega) (by omega) with h | h | h | h | h | h | h | h | h <;> rw [h] at hm ⊢ <;> simp only [sz0,sz1,sz2,sz3,sz4,sz5,sz6,sz7,sz8] at * <;> omega
  obtain ⟨b1,hb1,p1,q1⟩:=full h k (D.1,(k:Int)) rfl (by simp only;omega) m1.1 (fun x hx=>hc x ⟨hx.1,by have:=hx.2;simp only at this;omega⟩)
  obtain ⟨b2,hb2,p2,q2⟩:=full h k (D.1+sz (k:Int),(k:Int)) rfl (by simp only;omega) m1.2 (fun x hx=>hc x ⟨by have:=hx.1;simp only at this;omega,by have:=hx.2;simp only at this;omega⟩)
  simp only at p1 q1 p2 q2
  have M1:=h.may hb1
  have M2:=h.may hb2
  have key : ∀ b:Blk,b ∈ l→Meets D b→(k:Int) < b.2 → ∃ b ∈ l,b.1≤D.1∧D.1+sz D.2≤b.1+sz b.2:=fun b hb hmt hlt=>by
   have M:=h.may hb
   exact ⟨b,hb,nest (by omega) (by omega) (by have:=M.2.1;omega) hm M.2.2.2.2 hmt⟩
  by_cases c1:(k:Int) < b1.2
  ·exact key b1 hb1 ⟨by omega,by omega⟩ c1
  by_cases c2:(k:Int) < b2.2
  ·exact key b2 hb2 ⟨by omega,by omega⟩ c2
  have e1:b1=(D.1,(k:Int)):=sub_eq M1.1 (by simp only;omega) (by simp only;omega) p1 q1
  have e2:b2=(D.1+sz (k:Int),(k:Int)):=sub_eq M2.1 (by simp only;omega) (by simp only;omega) p2 q2
  exfalso
  refine h.notwin hb1 hb2 (by rw [e2];simp only;omega) ?_
  rw [e1,e2]
  unfold twin
  simp only
  rw [hs] at hm
  rw [if_neg (by
   rcases ords (o:=(k:Int)) (by omega) (by omega) with h | h | h | h | h | h | h | h | h <;> rw [h] at hm ⊢ <;> simp only [sz0,sz1,sz2,sz3,sz4,sz5,sz6,sz7,sz8] at * <;> omega)]
  simp
theorem cov_sub (h:Right r l) (hm:Right r m) (hc : ∀ x,Cov l x ↔ Cov m x) : ∀ b ∈ l,b ∈ m:=by
 intro b hb
 have M:=h.may hb
 obtain ⟨k,hk⟩ : ∃ k:Nat,b.2=(k:Int):=⟨b.2.toNat,by have:=M.1;omega⟩
 obtain ⟨c,hcm,c1,c2⟩:=full hm k b hk M.2.1 M.2.2.2.2 fun x hx=>(hc x).1 ⟨b,hb,hx⟩
 have N:=hm.may hcm
 obtain ⟨k',hk'⟩ : ∃ k:Nat,c.2=(k:Int):=⟨c.2.toNat,by have:=N.1;omega⟩
 obtain ⟨d,hd,d1,d2⟩:=full h k' c hk' N.2.1 N.2.2.2.2 fun x hx=>(hc x).2 ⟨c,hcm,hx⟩
 have p1:=sz_pos b.2
 have p2:=sz_pos c.2
 have e:d=b:=h.apart hd hb ⟨by omega,by omega⟩
 subst e
 have e1:c.1=d.1:=by omega
 have e2:sz c.2=sz d.2:=by omega
 have r8:=h.1.2
 have e3:c.2=d.2:=by
  have u1:=sz_inj M.1 (by have:=M.2.1;omega) N.1 (by have:=N.2.1;omega) (by omega)
  have u2:=sz_inj N.1 (by have:=N.2.1;omega) M.1 (by have:=M.2.1;omega) (by omega)
  omega
 rw [← (Prod.ext e1 e3:c=d)]
 exact hcm
theorem rise_ext : ∀ {l m:List Blk},l.Pairwise (fun a b=>a.1 < b.1)→m.Pairwise (fun a b=>a.1 < b.1)→(∀ b,b ∈ l ↔ b ∈ m)→l=m
 | [], [],_,_,_=>rfl
 | [],c :: t,_,_,h=>absurd ((h c).2 (List.mem_cons_self ..)) (by simp)
 | a :: s, [],_,_,h=>absurd ((h a).1 (List.mem_cons_self ..)) (by simp)
 | a :: s,c :: t,hl,hm,h=>by
  rw [List.pairwise_cons] at hl hm
  have e:a=c:=by
   rcases List.mem_cons.1 ((h a).1 (List.mem_cons_self ..)) with e | e
   ·exact e
   ·rcases List.mem_cons.1 ((h c).2 (List.mem_cons_self ..)) with e' | e'
    ·exact e'.symm
    ·have:=hl.1 _ e'
     have:=hm.1 _ e
     omega
  subst e
  refine congrArg (a :: ·) (rise_ext hl.2 hm.2 fun b=>⟨fun hb => ?_,fun hb => ?_⟩)
  ·rcases List.mem_cons.1 ((h b).1 (List.mem_cons_of_mem _ hb)) with e | e
   ·subst e
    have:=hl.1 _ hb
    omega
   ·exact e
  ·rcases List.mem_cons.1 ((h b).2 (List.mem_cons_of_mem _ hb)) with e | e
   ·subst e
    have:=hm.1 _ hb
    omega
   ·exact e
theorem Right.rise (h:Right r l):l.Pairwise (fun a b=>a.1 < b.1):=h.2.2.imp fun h=>h.1
theorem canon (h:Right r l) (hm:Right r m) (hc : ∀ x,Cov l x ↔ Cov m x):l=m :=
 rise_ext h.rise hm.rise fun b=>⟨cov_sub h hm hc b,cov_sub hm h (fun x=>(hc x).symm) b⟩
theorem right_of (hr:3≤r∧r≤8) (hl:l.Pairwise (fun a b=>a.1 < b.1)) (hm : ∀ b ∈ l,May r b) (ha : ∀ a ∈ l, ∀ b ∈ l,a≠b → ¬ Meets a b) (ht : ∀ a ∈ l, ∀ b ∈ l,a.1 < b.1→b.2 < r→twin b≠a):Right r l :=
 ⟨hr,hm,hl.imp_of_mem fun {a b} h1 h2 h=>⟨h,ha b h2 a h1 (by rintro rfl;omega),fun e=>ht a h1 b h2 h e.1 e.2⟩⟩
theorem rise_len : ∀ {l:List Blk} {lo hi:Int},l.Pairwise (fun a b=>a.1 < b.1)→(∀ b ∈ l,lo≤b.1∧b.1 < hi)→(l.length:Int)≤max 0 (hi - lo)
 | [],lo,hi,_,_=>by simp;omega
 | a :: t,lo,hi,h,hb=>by
  rw [List.pairwise_cons] at h
  have h1:=hb a (List.mem_cons_self ..)
  have:=rise_len (lo:=a.1+1) (hi:=hi) h.2 fun b hm=>⟨by have:=h.1 b hm;omega,(hb b (List.mem_cons_of_mem _ hm)).2⟩
  simp only [List.length_cons]
  omega
theorem Right.len (h:Right r l):(l.length:Int)≤sz r:=by
 have:=rise_len (lo:=0) (hi:=sz r) h.rise fun b hb=>⟨(h.may hb).2.2.1,by have:=(h.may hb).2.2.2.1;have:=sz_pos b.2;omega⟩
 have:=sz_pos r
 omega
theorem Right.len256 (h:Right r l):l.length≤256:=by
 have:=h.len
 have:=sz_le256 (o:=r) (by have:=h.1;omega) h.1.2
 omega
end
end Go.Proofs.YtcodpnbemdflcaaGreatDoor
namespace Go.Proofs.YtcodpnbemdflcaaGreatDoor
open Go.RowKit
def enc2 (b:Blk):List Value := [.int .i64 b.1, .int .i64 b.2]
def bval (b:Blk):Value := .agg (enc2 b).toArray
def bcs (l:List Blk):List Value:=l.flatMap enc2
theorem bcs_nil:bcs [] = []:=rfl
theorem bcs_cons (b:Blk) (l:List Blk):bcs (b :: l) = .int .i64 b.1 :: .int .i64 b.2 :: bcs l:=rfl
theorem bcs_append (l m:List Blk):bcs (l++m)=bcs l++bcs m:=by simp [bcs]
theorem bcs_length (l:List Blk):(bcs l).length=l.length*2:=by
 induction l with
 | nil=>rfl
 | cons b t ih=>rw [bcs_cons];simp [ih];omega
theorem bcs_one (l:List Blk) : ∀ u ∈ bcs l,u.oneCell'=true:=by
 intro u hu
 simp only [bcs,List.mem_flatMap] at hu
 obtain ⟨b,_,hb⟩:=hu
 simp [enc2] at hb
 rcases hb with rfl | rfl <;> rfl
theorem bcs_get : ∀ {l:List Blk} {j:Nat} {b:Blk},l[j]? = some b→(bcs l)[j*2]? = some (.int .i64 b.1)∧(bcs l)[j*2+1]? = some (.int .i64 b.2)
 | [],j,b,h=>by simp at h
 | c :: t,0,b,h=>by
  simp at h
  subst h
  exact ⟨rfl,rfl⟩
 | c :: t,j+1,b,h=>by
  have:=bcs_get (l:=t) (j:=j) (b:=b) (by simpa using h)
  rw [bcs_cons,show (j+1)*2=j*2+1+1 by omega,show j*2+1+1+1=(j*2+1)+1+1 by omega]
  simpa using this
theorem bcs_at {l:List Blk} {j:Nat} {u:Value} (h:(bcs l)[j]? = some u) : ∃ b,l[j / 2]? = some b∧u=(if j % 2=0 then .int .i64 b.1 else .int .i64 b.2):=by
 have hj:j < l.length*2:=by rw [← bcs_length];exact (List.getElem?_eq_some_iff.1 h).1
 have hb:l[j / 2]? = some (l[j / 2]'(by omega)):=List.getElem?_eq_getElem (by omega)
 obtain ⟨h1,h2⟩:=bcs_get hb
 refine ⟨_,hb,?_⟩
 split
 ·rw [show j / 2*2=j by omega,h] at h1
  exact Option.some.inj h1
 ·rw [show j / 2*2+1=j by omega,h] at h2
  exact Option.some.inj h2
theorem bcs_set : ∀ (l:List Blk) (j:Nat) (b:Blk),((bcs l).set (j*2) (.int .i64 b.1)).set (j*2+1) (.int .i64 b.2)=bcs (l.set j b)
 | [],j,b=>by simp [bcs_nil]
 | c :: t,0,b=>rfl
 | c :: t,j+1,b=>by
  rw [bcs_cons,List.set_cons_succ,bcs_cons,show (j+1)*2=j*2+1+1 by omega,show j*2+1+1+1=(j*2+1)+1+1 by omega]
  simp only [List.set_cons_succ,bcs_set t j b]
theorem bcs_take (l:List Blk) (k:Nat):(bcs l).take (k*2)=bcs (l.take k):=by
 induction k generalizing l with
 | zero=>simp [bcs_nil]
 | succ k ih =>
  cases l with
  | nil=>simp [bcs_nil]
  | cons c t =>
   rw [bcs_cons,show (k+1)*2=k*2+1+1 by omega,List.take_succ_cons,List.take_succ_cons,ih,List.take_succ_cons,bcs_cons]
structure RdS (w:World) (A:Option Addr) (n:Nat) (l:List Blk):Prop where
 len:l.length=n
 at_:0 < n → ∃ b off,A=some ⟨b,off,none⟩∧b < w.heap.size ∧ ∀ (j:Nat) (x:Blk),l[j]? = some x→w.cell? ⟨b,off+j*2,none⟩=some (.int .i64 x.1)∧w.cell? ⟨b,off+j*2+1,none⟩=some (.int .i64 x.2)
section
variable {w w':World} {A:Option Addr} {n:Nat} {l:List Blk}
theorem RdS.nil:RdS w A 0 []:=⟨rfl,fun h=>absurd h (by omega)⟩
theorem RdS.keep (h:RdS w A n l) (hs:w.heap.size≤w'.heap.size) (hk : ∀ p:Addr,p.block < w.heap.size→w'.cell? p=w.cell? p):RdS w' A n l :=
 ⟨h.len,fun hn=>by
  obtain ⟨b,off,e,hb,hc⟩:=h.at_ hn
  exact ⟨b,off,e,by omega,fun j x hx=>⟨(hk ⟨b,off+j*2,none⟩ hb).trans (hc j x hx).1,(hk ⟨b,off+j*2+1,none⟩ hb).trans (hc j x hx).2⟩⟩⟩
theorem RdS.below (h:RdS w A n l) (hb:Below w.heap.size w w'):RdS w' A n l:=h.keep hb.size fun _ hp=>hb.cell hp
theorem RdS.grown {r:Option Nat} (h:RdS w A n l) (hg:w.grownBy w' r) (hA : ∀ a,A=some a→some a.block≠r):RdS w' A n l :=
 ⟨h.len,fun hn=>by
  obtain ⟨b,off,e,hb,hc⟩:=h.at_ hn
  have hne:=hA _ e
  have hk:=hg.block b hb hne
  exact ⟨b,off,e,Nat.lt_of_lt_of_le hb hg.size,fun j x hx=>⟨(World.cell?_of_block (a:=⟨b,off+j*2,none⟩) hk).trans (hc j x hx).1,(World.cell?_of_block (a:=⟨b,off+j*2+1,none⟩) hk).trans (hc j x hx).2⟩⟩⟩
theorem RdS.drew (h:RdS w A n l):RdS w.drew A n l:=h.below (Below.refl _ _).drew
theorem RdS.cell (h:RdS w A n l) {j:Nat} (hj:j < n) : ∃ b off x,A=some ⟨b,off,none⟩∧b < w.heap.size∧l[j]? = some x∧w.cell? ⟨b,off+j*2,none⟩=some (.int .i64 x.1)∧w.cell? ⟨b,off+j*2+1,none⟩=some (.int .i64 x.2):=by
 obtain ⟨b,off,e,hb,hc⟩:=h.at_ (by omega)
 have hl:j < l.length:=by have:=h.len;omega
 exact ⟨b,off,l[j],e,hb,List.getElem?_eq_getElem hl,hc j _ (List.getElem?_eq_getElem hl)⟩
theorem RdS.cells (h:RdS w A n l) (hn:0 < n) : ∃ b off,A=some ⟨b,off,none⟩∧b < w.heap.size ∧ ∀ j u,(bcs l)[j]? = some u→w.cell? ⟨b,off+j,none⟩=some u:=by
 obtain ⟨b,off,e,hb,hc⟩:=h.at_ hn
 refine ⟨b,off,e,hb,fun j u hu => ?_⟩
 obtain ⟨x,hx,rfl⟩:=bcs_at hu
 have:=hc _ _ hx
 split
 ·rw [show off+j=off+j / 2*2 by omega];exact this.1
 ·rw [show off+j=off+j / 2*2+1 by omega];exact this.2
theorem RdS.take (h:RdS w A n l) {k:Nat} (hk:k≤n):RdS w A k (l.take k) :=
 ⟨by rw [List.length_take,h.len];omega,fun hp=>by
  obtain ⟨b,off,e,hb,hc⟩:=h.at_ (by omega)
  refine ⟨b,off,e,hb,fun j x hx=>hc j x ?_⟩
  rw [List.getElem?_take] at hx
  split at hx
  ·exact hx
  ·cases hx⟩
end
def OwnB (U:TypeId) (w:World) (base:Nat) (v:Value) (l:List Blk):Prop:=w.ownsRow base U 2 v l.length (bcs l)
section
variable {U:TypeId} {w w':World} {base:Nat} {v:Value} {l:List Blk}
theorem OwnB.nil:OwnB U w base (.slice none 0 0) []:=World.ownsRow_nil w base U 2
theorem OwnB.mono (h:OwnB U w base v l) {base':Nat} (hb:base'≤base):OwnB U w base' v l:=by
 refine ⟨h.1,?_⟩
 rcases h.2 with h2 | ⟨g,cap,cur,hv,hg,r⟩
 ·exact .inl h2
 ·exact .inr ⟨g,cap,cur,hv,by omega,r⟩
theorem OwnB.keep (h:OwnB U w base v l) (hb : ∀ k,v.ownBlock=some k→w'.heap[k]? = w.heap[k]?):OwnB U w' base v l:=by
 refine ⟨h.1,?_⟩
 rcases h.2 with h2 | ⟨g,cap,cur,rfl,hg,hh,r⟩
 ·exact .inl h2
 ·exact .inr ⟨g,cap,cur,rfl,hg,by rw [hb g rfl];exact hh,r⟩
theorem OwnB.lt (h:OwnB U w base v l) : ∀ k,v.ownBlock=some k→base≤k∧k < w.heap.size:=World.ownsRow.lt h
theorem OwnB.below (h:OwnB U w base v l) (hb:Below w.heap.size w w'):OwnB U w' base v l:=h.keep fun k hk=>hb.block k (h.lt k hk).2
theorem OwnB.drew (h:OwnB U w base v l):OwnB U w.drew base v l:=h.below (Below.refl _ _).drew
theorem OwnB.shape (h:OwnB U w base v l) {n:Nat} (hn:l.length=n) : ∃ A c,v = .slice A n c∧n≤c∧c≤maxLen∧RdS w A n l∧(A=none→n=0∧c=0) ∧ ∀ a,A=some a→v.ownBlock=some a.block∧a.off=0∧a.spot=none:=by
 subst hn
 rcases h.2 with ⟨rfl,hn⟩ | ⟨g,cap,cur,rfl,hg,hh,hc,hm,_⟩
 ·exact ⟨none,0,by rw [hn],by omega,by simp [maxLen],⟨rfl,fun hp=>by omega⟩,fun _=>⟨hn,rfl⟩,fun a ha=>by cases ha⟩
 ·refine ⟨_,cap,rfl,hc,hm,⟨rfl,fun hp=>⟨g,0,rfl,(Array.getElem?_eq_some_iff.1 hh).1,fun j x hx => ?_⟩⟩,(fun h=>by cases h),(fun a ha=>by injection ha with ha;subst ha;exact ⟨rfl,rfl,rfl⟩)⟩
  obtain ⟨h1,h2⟩:=bcs_get hx
  have e1:=World.ownsRow.cells h (g:=g) rfl _ _ h1
  have e2:=World.ownsRow.cells h (g:=g) rfl _ _ h2
  rw [add_plain] at e1 e2
  exact ⟨e1,by rw [Nat.add_assoc];exact e2⟩
theorem OwnB.grown {r:Option Nat} (h:OwnB U w base v l) (hg:w.grownBy w' r) (hne : ∀ k,v.ownBlock=some k→some k≠r):OwnB U w' base v l :=
 h.keep fun k hk=>hg.block k (h.lt k hk).2 (hne k hk)
theorem OwnB.form (h:OwnB U w base v l) {n:Nat} (hn:l.length=n) (hl:0 < n) : ∃ g cap,v = .slice (some ⟨g,0,none⟩) n cap∧base≤g∧g < w.heap.size∧n≤cap∧cap≤maxLen:=by
 subst hn
 rcases h.2 with ⟨_,h0⟩ | ⟨g,cap,cur,hv,hb,hh,hc,hm,_⟩
 ·omega
 ·exact ⟨g,cap,hv,hb,(Array.getElem?_eq_some_iff.1 hh).1,hc,hm⟩
theorem OwnB.cut {g cap n k:Nat} (hn:l.length=n) (h:OwnB U w base (.slice (some ⟨g,0,none⟩) n cap) l) (hk:k≤n):OwnB U w base (.slice (some ⟨g,0,none⟩) k cap) (l.take k):=by
 obtain ⟨h1,h2⟩:=h
 rcases h2 with ⟨h2,_⟩ | ⟨g',cap',cur,hv,hb,hh,hc,hm,hs,ht⟩
 ·cases h2
 ·injection hv with e1 e2 e3
  injection e1 with e1
  injection e1 with e1
  subst e1
  subst e3
  have hl:(l.take k).length=k:=by rw [List.length_take];omega
  refine ⟨by rw [bcs_length], .inr ⟨g,cap,cur,by rw [hl],hb,hh,by rw [hl];omega,hm,hs,?_⟩⟩
  rw [hl, ← bcs_take, ← ht,List.take_take,Nat.min_eq_left (by rw [hn];omega)]
theorem OwnB.set {g cap n:Nat} (hn:l.length=n) (h:OwnB U w base (.slice (some ⟨g,0,none⟩) n cap) l) (j:Nat) (b:Blk) :
  OwnB U ((w.setCell ⟨g,j*2,none⟩ (.int .i64 b.1)).setCell ⟨g,j*2+1,none⟩ (.int .i64 b.2)) base (.slice (some ⟨g,0,none⟩) n cap) (l.set j b):=by
 unfold OwnB at h ⊢
 rw [List.length_set,hn, ← bcs_set]
 rw [hn] at h
 exact (World.ownsRow.stored (World.ownsRow.stored h (j*2) _).1 (j*2+1) _).1
theorem OwnB.free {g cap n:Nat} (hn:l.length=n) (h:OwnB U w base (.slice (some ⟨g,0,none⟩) n cap) l) (j:Nat):w.frozen? ⟨g,j,none⟩=false:=by
 unfold OwnB at h
 rw [hn] at h
 exact World.ownsRow.frozenAt h j
theorem OwnB.cell {g cap n:Nat} (hn:l.length=n) (h:OwnB U w base (.slice (some ⟨g,0,none⟩) n cap) l) {j:Nat} {x:Blk} (hx:l[j]? = some x):w.cell? ⟨g,j*2,none⟩=some (.int .i64 x.1)∧w.cell? ⟨g,j*2+1,none⟩=some (.int .i64 x.2):=by
 obtain ⟨A,c,hv,_,_,r,_⟩:=h.shape hn
 injection hv with e1 e2 e3
 have hj:j < n:=by rw [← hn];exact (List.getElem?_eq_some_iff.1 hx).1
 obtain ⟨b,off,e,_,hc⟩:=r.at_ (by omega)
 rw [← e1] at e
 simp only [Option.some.injEq,Addr.mk.injEq,and_true] at e
 obtain ⟨rfl,rfl⟩:=e
 have:=hc j x hx
 rw [Nat.zero_add] at this
 exact this
theorem RdS.one (w:World) (b:Blk) (cs:Array Value) (h:cs.toList=enc2 b):RdS (w.alloc (.cells cs U)) (some ⟨w.heap.size,0,none⟩) 1 [b] :=
 ⟨rfl,fun _=>⟨w.heap.size,0,rfl,by simp,fun j x hx=>by
  have hj:j=0:=by
   have:=(List.getElem?_eq_some_iff.1 hx).1
   simpa using this
  subst hj
  simp at hx
  subst hx
  have hw:=Whole.new w cs U
  rw [h] at hw
  exact ⟨by rw [Nat.zero_mul,Nat.zero_add,hw.cell];rfl,by rw [Nat.zero_mul,Nat.zero_add,hw.cell];rfl⟩⟩⟩
theorem OwnB.one (w:World) (b:Blk) (cs:Array Value) (h:cs.toList=enc2 b) {base:Nat} (hb:base≤w.heap.size):OwnB U (w.alloc (.cells cs U)) base (.slice (some ⟨w.heap.size,0,none⟩) 1 1) [b]:=by
 have hsz:cs.size=2:=by rw [← Array.length_toList,h];rfl
 have hw:=Whole.new w cs U
 refine ⟨rfl, .inr ⟨w.heap.size,1,cs,rfl,hb,?_,Nat.le_refl _,by simp [maxLen],by rw [hsz],?_⟩⟩
 ·unfold Whole at hw
  simpa using hw
 ·rw [h];rfl
end
def AppB (U:TypeId) (w:World) (base:Nat) (v:Value) (l:List Blk) (v':Value) (w':World):Prop :=
 OwnB U w' base v' l∧w.grownBy w' v.ownBlock∧(v'.ownBlock=v.ownBlock ∨ ∃ k,v'.ownBlock=some k∧w.heap.size≤k)
theorem AppB.below {U:TypeId} {w w':World} {base:Nat} {v v':Value} {l m:List Blk} (h:AppB U w base v l v' w') (ho:OwnB U w base v m) {B:Nat} (hB:B≤base) (hs:B≤w.heap.size) {w0:World} (b:Below B w0 w):Below B w0 w' :=
 b.grown h.2.1 hs fun k hk=>Nat.le_trans hB (ho.lt k hk).1
theorem run_appB {P:Program} {w:World} (base:Nat) (t ty U:TypeId) (ht:P.underlying t=some (.slice U)) {z:Value} (hinfo:(P.info? U).map (fun i=>(i.zero,i.size,i.bytes))=some (some z,2,16)) (hz:z.cells.size=2)
  (v:Value) (l:List Blk) (hown:OwnB U w base v l) (A:Option Addr) (m c:Nat) (news:List Blk) (hr:RdS w A m news) (hle:l.length+m≤8796093022208) (hbase:base≤w.heap.size) :
  ∃ v' w',(Builtin.append_ #[t,t] ty #[v, .slice A m c]).run P w = .ok v' w'∧AppB U w base v (l++news) v' w':=by
 obtain ⟨i0,hi,hz0,hz1,hz2⟩:=info_parts hinfo
 have hm:news.length=m:=hr.len
 by_cases h0:m=0
 ·subst h0
  obtain rfl:news = []:=List.eq_nil_of_length_eq_zero hm
  have hrun:(Builtin.append_ #[t,t] ty #[v, .slice A 0 c]).run P w = .ok v w:=by
   rcases hown.2 with ⟨rfl,_⟩ | ⟨g,cap,cur,rfl,_,_,hnc,_⟩
   ·cases A <;> simp [Builtin.append_,run_underlying ht,sizeOf,typeInfo,hi,Builtin.lenOf,Builtin.firstCells,loadCells,loadCellsFrom]
   ·cases A <;> simp [Builtin.append_,run_underlying ht,sizeOf,typeInfo,hi,Builtin.lenOf,Builtin.firstCells,loadCells,loadCellsFrom,hnc,storeCells]
  exact ⟨v,w,hrun,by rw [List.append_nil];exact hown,⟨rfl,rfl,rfl,Nat.le_refl _,fun _ _ _=>rfl⟩,Or.inl rfl⟩
 ·obtain ⟨b,off,rfl,hb,hc⟩:=hr.cells (by omega)
  obtain ⟨v',w',hrun,h1,h2,_,h4⟩:=run_append_own_at (P:=P) w base t ty U i0 _ 2 16 ht hi hz0 hz1 hz2 hz (by omega) v l.length (bcs l) hown ⟨b,off,none⟩ m c (bcs news) (by rw [bcs_length];omega)
   (fun j u hj=>by rw [add_plain];exact hc j u hj) (bcs_one _) (by simp only [maxLen];omega) (by omega) hbase
  refine ⟨v',w',hrun,?_,h2,?_⟩
  ·unfold OwnB
   rw [bcs_append,List.length_append,hm]
   exact h1
  ·rcases h4 with h4 | h4
   ·exact .inl h4
   ·exact .inr ⟨_,h4,Nat.le_refl _⟩
theorem run_appB_one {P:Program} {w:World} (base:Nat) (t ty U:TypeId) (ht:P.underlying t=some (.slice U)) {z:Value} (hinfo:(P.info? U).map (fun i=>(i.zero,i.size,i.bytes))=some (some z,2,16)) (hz:z.cells.size=2)
  (v:Value) (l:List Blk) (hown:OwnB U w base v l) (b:Blk) (hle:l.length+1≤8796093022208) (hbase:base≤w.heap.size) :
  ∃ v' w',(Builtin.append_ #[t,t] ty #[v, .slice (some ⟨w.heap.size,0,none⟩) 1 1]).run P (w.alloc (.cells #[.int .i64 b.1, .int .i64 b.2] U)) = .ok v' w'∧AppB U w base v (l ++ [b]) v' w':=by
 have hb1:Below w.heap.size w (w.alloc (.cells #[.int .i64 b.1, .int .i64 b.2] U)):=(Below.refl _ _).alloc (Nat.le_refl _) _
 have ho:=hown.below hb1
 obtain ⟨v',w',h1,h2,h3,h4⟩:=run_appB base t ty U ht hinfo hz v l ho _ 1 1 [b] (RdS.one w b #[.int .i64 b.1, .int .i64 b.2] rfl) hle (Nat.le_trans hbase hb1.size)
 refine ⟨v',w',h1,h2,grown_trans (grown_below hb1 _) h3,?_⟩
 rcases h4 with h4 | ⟨k,h4,h5⟩
 ·exact .inl h4
 ·exact .inr ⟨k,h4,Nat.le_trans hb1.size h5⟩
end Go.Proofs.YtcodpnbemdflcaaGreatDoor
namespace Go.Proofs.YtcodpnbemdflcaaGreatDoor
open Go.RowKit
def Tells (w:World) (v:Value) (e:Ending) (w':World):Prop:=e = .returned v∧Below w.heap.size w w'
def wordsI (o:Int):Int:=if 0≤o∧o≤8 then sz o else 0
theorem wordsI_in {o:Int} (h:0≤o) (h8:o≤8):wordsI o=sz o:=if_pos ⟨h,h8⟩
set_option maxHeartbeats 400000 in
theorem words_any (o:Int) (w:World):Calls Tryz.prog 16 #[.int .i64 o] w fun e w'=>e = .returned (.int .i64 (wordsI o))∧w=w':=by
 by_cases h:0≤o∧o≤8
 ·rw [wordsI_in h.1 h.2]
  rcases ords h.1 h.2 with h | h | h | h | h | h | h | h | h <;> subst h
  all_goals
   go_enter Tryz.func16,Tryz.ntmps16
   go_wp2
   go_ret
   exact ⟨rfl,rfl⟩
 ·have e:wordsI o=0:=if_neg h
  rw [e]
  by_cases h0:o < 0
  ·go_enter Tryz.func16,Tryz.ntmps16
   go_wp2
   go_ret
   exact ⟨rfl,rfl⟩
  ·have h1:8 < o:=by omega
   clear e h
   go_enter Tryz.func16,Tryz.ntmps16
   go_wp2
   go_ret
   exact ⟨rfl,rfl⟩
set_option maxHeartbeats 400000 in
theorem isRegion_any (o:Int) (w:World):Calls Tryz.prog 31 #[.int .i64 o] w fun e w'=>e = .returned (.bool (decide (3≤o∧o≤8)))∧w=w':=by
 by_cases h:3≤o
 ·by_cases h8:o≤8
  ·rw [decide_eq_true ⟨h,h8⟩]
   go_enter Tryz.func31,Tryz.ntmps31
   go_wp2
   go_ret
   exact ⟨rfl,rfl⟩
  ·rw [decide_eq_false (by omega)]
   go_enter Tryz.func31,Tryz.ntmps31
   go_wp2
   go_ret
   exact ⟨rfl,rfl⟩
 ·rw [decide_eq_false (by omega)]
  go_enter Tryz.func31,Tryz.ntmps31
  go_wp2
  go_ret
  exact ⟨rfl,rfl⟩
end Go.Proofs.YtcodpnbemdflcaaGreatDoor
namespace Go.Proofs.YtcodpnbemdflcaaGreatDoor
open Go.RowKit
def lessB (a b:Blk):Bool:=decide (a.2 < b.2) || (a.2 == b.2 && decide (a.1 < b.1))
theorem lessB_iff (a b:Blk):lessB a b=true ↔ a.2 < b.2∨(a.2=b.2∧a.1 < b.1):=by simp [lessB]
def Lq (a b:Blk):Prop:=a.2 < b.2∨(a.2=b.2∧a.1≤b.1)
theorem lessB_no {a b:Blk} (h:lessB a b=false):Lq b a:=by
 have : ¬ (a.2 < b.2∨(a.2=b.2∧a.1 < b.1)):=by rw [← lessB_iff,h];simp
 unfold Lq
 omega
theorem lessB_yes {a b:Blk} (h:lessB a b=true):Lq a b:=by
 have:=(lessB_iff a b).1 h
 unfold Lq
 omega
theorem Lq.refl (a:Blk):Lq a a:=by unfold Lq;omega
theorem Lq.trans {a b c:Blk} (h:Lq a b) (k:Lq b c):Lq a c:=by unfold Lq at *;omega
def nth (l:List Blk) (j:Nat):Blk:=l.getD j (0,0)
theorem nth_get {l:List Blk} {j:Nat} (h:j < l.length):l[j]? = some (nth l j):=by simp [nth,List.getD,List.getElem?_eq_getElem h]
theorem nth_set {l:List Blk} {j:Nat} (h:j < l.length) (b:Blk) (k:Nat):nth (l.set j b) k=if k=j then b else nth l k:=by
 unfold nth
 rw [List.getD_eq_getElem?_getD,List.getD_eq_getElem?_getD,List.getElem?_set]
 by_cases e:k=j
 ·subst e;simp [h]
 ·rw [if_neg e,if_neg (fun h=>e h.symm)]
def swp2 (l:List Blk) (i j:Nat):List Blk:=(l.set i (nth l j)).set j (nth l i)
theorem swp2_length (l:List Blk) (i j:Nat):(swp2 l i j).length=l.length:=by simp [swp2]
theorem nth_swp2 {l:List Blk} {i j:Nat} (hi:i < l.length) (hj:j < l.length) (k:Nat):nth (swp2 l i j) k=if k=j then nth l i else if k=i then nth l j else nth l k:=by
 unfold swp2
 rw [nth_set (by simpa using hj),nth_set hi]
theorem swp2_perm {l:List Blk} {i j:Nat} (hi:i < l.length) (hj:j < l.length):(swp2 l i j).Perm l:=by
 have h:=Array.swap_perm (xs:=l.toArray) (i:=i) (j:=j) (by simpa using hi) (by simpa using hj)
 have h2:=h.toList
 rw [Array.swap_def] at h2
 have e1:l[j]=nth l j:=by have:=nth_get hj;rw [List.getElem?_eq_getElem hj] at this;exact Option.some.inj this
 have e2:l[i]=nth l i:=by have:=nth_get hi;rw [List.getElem?_eq_getElem hi] at this;exact Option.some.inj this
 simp at h2
 rw [e1,e2] at h2
 exact h2
def HeapFrom (l:List Blk) (n k:Nat):Prop := ∀ j c,k≤j→(c=2*j+1∨c=2*j+2)→c < n→Lq (nth l j) (nth l c)
def HeapBut (l:List Blk) (n k i:Nat):Prop :=
 (∀ j c,k≤j→j≠i→(c=2*j+1∨c=2*j+2)→c < n→Lq (nth l j) (nth l c)) ∧
 ∀ p c,k≤p→(i=2*p+1∨i=2*p+2)→(c=2*i+1∨c=2*i+2)→c < n→Lq (nth l p) (nth l c)
theorem heapBut_of {l:List Blk} {n k:Nat} (h:HeapFrom l n (k+1)):HeapBut l n k k :=
 ⟨fun j c hj hne hc hn=>h j c (by omega) hc hn,fun p c hp hi _ _=>by omega⟩
theorem HeapBut.none {l:List Blk} {n k i:Nat} (h:HeapBut l n k i) (hi:n≤2*i+1):HeapFrom l n k:=fun j c hj hc hn=>by
 by_cases e:j=i
 ·subst e;omega
 ·exact h.1 j c hj e hc hn
theorem HeapBut.fits {l:List Blk} {n k i:Nat} (h:HeapBut l n k i) (h1:2*i+1 < n→Lq (nth l i) (nth l (2*i+1))) (h2:2*i+2 < n→Lq (nth l i) (nth l (2*i+2))):HeapFrom l n k:=fun j c hj hc hn=>by
 by_cases e:j=i
 ·subst e
  rcases hc with rfl | rfl
  ·exact h1 hn
  ·exact h2 hn
 ·exact h.1 j c hj e hc hn
theorem HeapBut.down {l:List Blk} {n k i j:Nat} (h:HeapBut l n k i) (hk:k≤i) (hn:n≤l.length) (hj:j=2*i+1∨j=2*i+2) (hjn:j < n)
  (hl:Lq (nth l j) (nth l i)) (ho : ∀ c,(c=2*i+1∨c=2*i+2)→c < n→Lq (nth l j) (nth l c)):HeapBut (swp2 l i j) n k j:=by
 have hi:i < l.length:=by omega
 have hj':j < l.length:=by omega
 refine ⟨fun a c ha hne hc hcn => ?_,fun p c hp hpj hc hcn => ?_⟩
 ·rw [nth_swp2 hi hj',nth_swp2 hi hj']
  by_cases e:a=i
  ·subst e
   rw [if_neg (by omega),if_pos rfl]
   by_cases ec:c=j
   ·rw [if_pos ec];exact hl
   ·rw [if_neg ec,if_neg (by omega)]
    exact ho c hc hcn
  ·rw [if_neg hne,if_neg e]
   by_cases ec:c=j
   ·omega
   ·rw [if_neg ec]
    by_cases ei:c=i
    ·subst ei
     rw [if_pos rfl]
     exact h.2 a j ha hc hj hjn
    ·rw [if_neg ei]
     exact h.1 a c ha e hc hcn
 ·have:p=i:=by omega
  subst this
  rw [nth_swp2 hi hj',nth_swp2 hi hj',if_neg (by omega),if_pos rfl,if_neg (by omega),if_neg (by omega)]
  exact h.1 j c (by omega) (by omega) hc hcn
def HeapUp (l:List Blk) (j:Nat):Prop :=
 (∀ p c,c≠j→(c=2*p+1∨c=2*p+2)→c < l.length→Lq (nth l p) (nth l c)) ∧
 ∀ p c,(j=2*p+1∨j=2*p+2)→(c=2*j+1∨c=2*j+2)→c < l.length→Lq (nth l p) (nth l c)
theorem HeapUp.top {l:List Blk} (h:HeapUp l 0):HeapFrom l l.length 0:=fun j c _ hc hn=>h.1 j c (by omega) hc hn
theorem HeapUp.fits {l:List Blk} {i j:Nat} (h:HeapUp l j) (hj:j=2*i+1∨j=2*i+2) (hl:Lq (nth l i) (nth l j)):HeapFrom l l.length 0:=fun a c _ hc hn=>by
 by_cases e:c=j
 ·subst e
  have:a=i:=by omega
  subst this
  exact hl
 ·exact h.1 a c e hc hn
theorem HeapUp.up {l:List Blk} {i j:Nat} (h:HeapUp l j) (hj:j=2*i+1∨j=2*i+2) (hjn:j < l.length) (hl:Lq (nth l j) (nth l i)):HeapUp (swp2 l i j) i:=by
 have hi:i < l.length:=by omega
 refine ⟨fun p c hne hc hcn => ?_,fun p c hp hc hcn => ?_⟩
 ·rw [swp2_length] at hcn
  rw [nth_swp2 hi hjn,nth_swp2 hi hjn]
  by_cases ec:c=j
  ·have:p=i:=by omega
   subst this
   rw [if_neg (by omega),if_pos rfl,if_pos ec]
   exact hl
  ·rw [if_neg ec,if_neg hne]
   by_cases ep:p=j
   ·subst ep
    rw [if_pos rfl]
    exact h.2 i c hj hc hcn
   ·rw [if_neg ep]
    by_cases ei:p=i
    ·subst ei
     rw [if_pos rfl]
     exact hl.trans (h.1 p c ec hc hcn)
    ·rw [if_neg ei]
     exact h.1 p c ec hc hcn
 ·rw [swp2_length] at hcn
  rw [nth_swp2 hi hjn,nth_swp2 hi hjn,if_neg (by omega),if_neg (by omega)]
  have hpi:=h.1 p i (by omega) hp hi
  by_cases ec:c=j
  ·rw [if_pos ec];exact hpi
  ·rw [if_neg ec,if_neg (by omega)]
   exact hpi.trans (h.1 i c ec hc hcn)
theorem heapUp_push {l:List Blk} (h:HeapFrom l l.length 0) (b:Blk):HeapUp (l ++ [b]) l.length:=by
 have e : ∀ k,k < l.length→nth (l ++ [b]) k=nth l k:=fun k hk=>by unfold nth;rw [List.getD_eq_getElem?_getD,List.getD_eq_getElem?_getD,List.getElem?_append_left hk]
 refine ⟨fun p c hne hc hcn => ?_,fun p c hp hc hcn => ?_⟩
 ·rw [List.length_append,List.length_singleton] at hcn
  rw [e p (by omega),e c (by omega)]
  exact h p c (Nat.zero_le _) hc (by omega)
 ·rw [List.length_append,List.length_singleton] at hcn
  omega
theorem heap_first {l:List Blk} {n:Nat} (h:HeapFrom l n 0) : ∀ j,j < n→Lq (nth l 0) (nth l j):=by
 intro j
 induction j using Nat.strongRecOn with
 | _ j ih =>
  intro hj
  by_cases h0:j=0
  ·subst h0;exact Lq.refl _
  ·exact (ih ((j - 1) / 2) (by omega) (by omega)).trans (h ((j - 1) / 2) j (Nat.zero_le _) (by omega) hj)
theorem heap_first_mem {l:List Blk} (h:HeapFrom l l.length 0) {b:Blk} (hb:b ∈ l):Lq (nth l 0) b:=by
 obtain ⟨j,hj,rfl⟩:=List.mem_iff_getElem.1 hb
 have:=heap_first h j hj
 have e:nth l j=l[j]:=by have:=nth_get hj;rw [List.getElem?_eq_getElem hj] at this;exact (Option.some.inj this).symm
 rwa [e] at this
theorem nth_take {l:List Blk} {n j:Nat} (h:j < n):nth (l.take n) j=nth l j:=by
 unfold nth
 rw [List.getD_eq_getElem?_getD,List.getD_eq_getElem?_getD,List.getElem?_take,if_pos h]
theorem heap_take {l:List Blk} {n k:Nat} (h:HeapFrom l n k):HeapFrom (l.take n) n k:=fun j c hj hc hn=>by
 rw [nth_take (by omega),nth_take hn]
 exact h j c hj hc hn
theorem take_last {l:List Blk} {n:Nat} (h:l.length=n+1):l.take n ++ [nth l n]=l:=by
 have:=List.take_append_getElem (l:=l) (i:=n) (by omega)
 have e:nth l n=l[n]:=by have:=nth_get (l:=l) (j:=n) (by omega);rw [List.getElem?_eq_getElem (by omega)] at this;exact (Option.some.inj this).symm
 rw [e,this,List.take_of_length_le (by omega)]
end Go.Proofs.YtcodpnbemdflcaaGreatDoor
namespace Go.Proofs.YtcodpnbemdflcaaGreatDoor
open Go.RowKit
def Grew (w w':World):Prop := ∃ q os,w'=Go.Sort.grow (w.drewN q) os
theorem Grew.refl (w:World):Grew w w:=⟨0, #[],by rw [Go.Sort.grow_empty];rfl⟩
theorem Grew.trans {a b c:World} (h:Grew a b) (k:Grew b c):Grew a c:=by
 obtain ⟨q,os,rfl⟩:=h
 obtain ⟨p,os',rfl⟩:=k
 exact ⟨q+p,os++os',by show Go.Sort.grow (Go.Sort.grow ((a.drewN q).drewN p) os) os'=_;rw [Go.Sort.grow_grow,World.drewN_drewN]⟩
theorem Grew.alloc {a b:World} (h:Grew a b) (o:Obj):Grew a (b.alloc o):=h.trans ⟨0, #[o],by rw [Go.Sort.alloc_eq_grow];rfl⟩
theorem Grew.drewN {a b:World} (h:Grew a b) (n:Nat):Grew a (b.drewN n):=h.trans ⟨n, #[],by rw [Go.Sort.grow_empty]⟩
theorem Grew.drew {a b:World} (h:Grew a b):Grew a b.drew:=h.drewN 1
theorem Grew.grow {a b:World} (h:Grew a b) (n:Nat) (os:Array Obj):Grew a (Go.Sort.grow (b.drewN n) os):=h.trans ⟨n,os,rfl⟩
theorem Grew.below {a b:World} (h:Grew a b):Below a.heap.size a b:=by
 obtain ⟨q,os,rfl⟩:=h
 exact ⟨rfl,rfl,rfl,by rw [Go.Sort.size_grow];exact Nat.le_add_right _ _,fun k hk=>Go.Sort.heap_grow_old (a.drewN q) os hk⟩
def Says (w:World) (v:Value) (e:Ending) (w':World):Prop:=e = .returned v∧Grew w w'
structure Box2 (w:World) (k:Nat) (b:Blk):Prop where
 lt:k < w.heap.size
 c0:w.cell? ⟨k,0,none⟩=some (.int .i64 b.1)
 c1:w.cell? ⟨k,1,none⟩=some (.int .i64 b.2)
theorem Box2.new (w:World) (b:Blk) (t:TypeId):Box2 (w.alloc (.cells #[.int .i64 b.1, .int .i64 b.2] t)) w.heap.size b:=by
 have hw:=Whole.new w #[.int .i64 b.1, .int .i64 b.2] t
 exact ⟨by simp,by rw [hw.cell];rfl,by rw [hw.cell];rfl⟩
theorem Box2.below {w w':World} {k:Nat} {b:Blk} (h:Box2 w k b) (hb:Below w.heap.size w w'):Box2 w' k b :=
 ⟨Nat.lt_of_lt_of_le h.lt hb.size,(hb.cell (p:=⟨k,0,none⟩) h.lt).trans h.c0,(hb.cell (p:=⟨k,1,none⟩) h.lt).trans h.c1⟩
theorem Box2.alloc {w:World} {k:Nat} {b:Blk} (h:Box2 w k b) (o:Obj):Box2 (w.alloc o) k b:=h.below ((Below.refl _ _).alloc (Nat.le_refl _) o)
theorem Box2.g0 {w:World} {k:Nat} {b:Blk} (h:Box2 w k b) (n:Nat) (os:Array Obj):(Go.Sort.grow (w.drewN n) os).cell? ⟨k,0,none⟩=some (.int .i64 b.1):=cell_grown h.lt h.c0 n os
theorem Box2.g1 {w:World} {k:Nat} {b:Blk} (h:Box2 w k b) (n:Nat) (os:Array Obj):(Go.Sort.grow (w.drewN n) os).cell? ⟨k,1,none⟩=some (.int .i64 b.2):=cell_grown h.lt h.c1 n os
theorem calls_grown_same {P:Program} {f:FuncId} {args:Array Value} {w:World} {n:Nat} {os:Array Obj} {v:Value}
  (h:Calls P f args (Go.Sort.grow (w.drewN n) os) fun e w'=>e = .returned v∧Go.Sort.grow (w.drewN n) os=w'):Calls P f args (Go.Sort.grow (w.drewN n) os) fun e w''=>e = .returned v ∧ ∃ p:GrownBy,w''=Go.Sort.grow (w.drewN p.n) p.os :=
 h.mono fun _ _ ⟨he,hq⟩=>⟨he,⟨n,os⟩,hq.symm⟩
theorem calls_grown_says {P:Program} {f:FuncId} {args:Array Value} {w:World} {n:Nat} {os:Array Obj} {v:Value}
  (h:Calls P f args (Go.Sort.grow (w.drewN n) os) (Says (Go.Sort.grow (w.drewN n) os) v)):Calls P f args (Go.Sort.grow (w.drewN n) os) fun e w''=>e = .returned v ∧ ∃ p:GrownBy,w''=Go.Sort.grow (w.drewN p.n) p.os :=
 Calls.grown_of (h.mono fun _ _ ⟨he,q,os',hq⟩=>⟨he,q,os',hq⟩)
theorem results_box {fn:Func} {p:Tmp} {b:Blk} (h:fn.results = #[.cell p 57]) (tmps:Array Value) (w:World) (k:Nat) (hp:tmps.getD p undef = .pointer (some ⟨k,0,none⟩))
  (c0:w.cell? ⟨k,0,none⟩=some (.int .i64 b.1)) (c1:w.cell? ⟨k,1,none⟩=some (.int .i64 b.2)):(results fn tmps).run Tryz.prog w = .ok (bval b) w:=by
 have u:=Tryz.underlying57
 have z:=Tryz.sizeOf57
 have a:=Tryz.isAgg57
 have hp':tmps[p]?.getD undef = .pointer (some ⟨k,0,none⟩):=by simpa using hp
 simp only [results,h]
 simp [hp',asAddr,loadVar]
 go_simp
 rfl
set_option maxHeartbeats 1000000 in
theorem twin_any (b:Blk) (w:World) (hb:0≤b.2∧b.2≤8) (rb:0≤b.1∧b.1≤256) :
  Calls Tryz.prog 128 #[bval b] w (Says w (bval (twin b))):=by
 have S1:=fun W=>words_any b.2 W
 rw [wordsI_in hb.1 hb.2] at S1
 have l1:=sz_le256 hb.1 hb.2
 have p1:=sz_pos b.2
 obtain ⟨y,p⟩:=b
 unfold twin
 simp only at *
 obtain ⟨s,hs⟩ : ∃ s,s=sz p:=⟨_,rfl⟩
 rw [← hs] at S1 l1 p1 ⊢
 clear hs
 unfold bval enc2
 by_cases h1:y % (2*s)=0
 ·rw [if_pos h1]
  go_enter Tryz.func128,Tryz.ntmps128
  go_wp2_with (go_at_call 16;refine (S1 _).mono ?_;rintro e w1 ⟨rfl,rfl⟩)
  refine bodyPost_ret (results_box (b:=(y+s,p)) rfl _ _ (w.heap.size+1) rfl (by go_simp) (by go_simp)) rfl ?_
  exact ⟨rfl,((Grew.refl w).alloc _).alloc _⟩
 ·rw [if_neg h1]
  go_enter Tryz.func128,Tryz.ntmps128
  go_wp2_with (go_at_call 16;refine (S1 _).mono ?_;rintro e w1 ⟨rfl,rfl⟩)
  refine bodyPost_ret (results_box (b:=(y - s,p)) rfl _ _ (w.heap.size+1) rfl (by go_simp) (by go_simp)) rfl ?_
  exact ⟨rfl,((Grew.refl w).alloc _).alloc _⟩
theorem may_iff (r y p:Int):decide (May r (y,p))=(decide (0≤p) && (decide (p≤r) && (decide (0≤y) && (decide (y≤sz r - sz p) && (y % sz p == 0))))):=by
 rw [Bool.eq_iff_iff,decide_eq_true_iff]
 simp only [Bool.and_eq_true,decide_eq_true_iff,beq_iff_eq]
 exact Iff.rfl
set_option maxHeartbeats 1000000 in
theorem mayBe_any (r:Int) (b:Blk) (w:World) (hr:0≤r∧r≤8) :
  Calls Tryz.prog 132 #[.int .i64 r,bval b] w (Says w (.bool (decide (May r b)))):=by
 obtain ⟨y,p⟩:=b
 rw [may_iff]
 unfold bval enc2
 simp only
 by_cases h0:0≤p
 ·by_cases hp:p≤r
  ·have S1:=fun W=>words_any p W
   have S2:=fun W=>words_any r W
   rw [wordsI_in h0 (by omega)] at S1
   rw [wordsI_in hr.1 hr.2] at S2
   have l1:=sz_le256 (o:=p) h0 (by omega)
   have p1:=sz_pos p
   have l2:=sz_le256 hr.1 hr.2
   have p2:=sz_pos r
   rw [decide_eq_true h0,decide_eq_true hp,Bool.true_and,Bool.true_and]
   obtain ⟨s,hs⟩ : ∃ s,s=sz p:=⟨_,rfl⟩
   obtain ⟨t,ht⟩ : ∃ t,t=sz r:=⟨_,rfl⟩
   rw [← hs] at S1 l1 p1 ⊢
   rw [← ht] at S2 l2 p2 ⊢
   clear hs ht
   have e1:IntKind.i64.wrap (t - s)=t - s:=by rw [IntKind.wrap_i64];omega
   have hs0:(s == 0)=false:=by simp;omega
   have g1:Grew w (w.alloc (.cells #[.int .i64 y, .int .i64 p] 57)):=(Grew.refl w).alloc _
   have B1:=Box2.new w (y,p) 57
   have mixed:Tryz.prog.follows .mixedOrders=true:=by kernel_rfl
   go_enter Tryz.func132,Tryz.ntmps132
   go_wp2_with (go_at_call 16;refine (S1 _).mono ?_;rintro e w1 ⟨rfl,rfl⟩)
   generalize w.alloc (.cells #[.int .i64 y, .int .i64 p] 57)=w1 at g1 B1 ⊢
   have c0:=B1.g0
   have c1:=B1.g1
   simp only at c0 c1
   clear B1 S1
   by_cases hy:0≤y
   ·have hd:decide (0≤y)=true:=decide_eq_true hy
    rw [hd,Bool.true_and]
    by_cases hz:y≤t - s
    ·have hd2:decide (y≤t - s)=true:=decide_eq_true hz
     rw [hd2,Bool.true_and]
     refine wp_region_quiet_grown mixed (by kernel_rfl) ?_
     repeat (go_big_quiet_step ((go_at_call_of 16 r;exact calls_grown_same (S2 _))))
     refine wpQuiet_nil ?_
     intro _ hw'
     obtain ⟨⟨nq,osq⟩,hw''⟩:=hw'
     subst hw''
     have g2:=g1.grow nq osq
     go_wp2
     go_ret
     exact ⟨by rw [hd,hd2];rfl,g2⟩
    ·have hd2:decide (y≤t - s)=false:=decide_eq_false hz
     rw [hd2,Bool.false_and]
     refine wp_region_quiet_grown mixed (by kernel_rfl) ?_
     repeat (go_big_quiet_step ((go_at_call_of 16 r;exact calls_grown_same (S2 _))))
     refine wpQuiet_nil ?_
     intro _ hw'
     obtain ⟨⟨nq,osq⟩,hw''⟩:=hw'
     subst hw''
     have g2:=g1.grow nq osq
     go_wp2
     go_ret
     exact ⟨rfl,g2⟩
   ·have hd:decide (0≤y)=false:=decide_eq_false hy
    rw [hd,Bool.false_and]
    refine wp_region_quiet_grown mixed (by kernel_rfl) ?_
    repeat (go_big_quiet_step ((go_at_call_of 16 r;exact calls_grown_same (S2 _))))
    refine wpQuiet_nil ?_
    intro _ hw'
    obtain ⟨⟨nq,osq⟩,hw''⟩:=hw'
    subst hw''
    have g2:=g1.grow nq osq
    go_wp2
    go_ret
    exact ⟨rfl,g2⟩
  ·rw [decide_eq_true h0,decide_eq_false hp,Bool.true_and,Bool.false_and]
   go_enter Tryz.func132,Tryz.ntmps132
   go_wp2
   go_ret
   exact ⟨rfl,(Grew.refl w).alloc _⟩
 ·rw [decide_eq_false h0,Bool.false_and]
  go_enter Tryz.func132,Tryz.ntmps132
  go_wp2
  go_ret
  exact ⟨rfl,(Grew.refl w).alloc _⟩
end Go.Proofs.YtcodpnbemdflcaaGreatDoor
namespace Go.Proofs.YtcodpnbemdflcaaGreatDoor
open Go.RowKit
def sameB (x y:Blk):Bool:=x.1 == y.1 && x.2 == y.2
theorem sameB_iff (x y:Blk):sameB x y=true ↔ x=y:=by
 unfold sameB
 rw [Bool.and_eq_true,beq_iff_eq,beq_iff_eq]
 exact ⟨fun h=>Prod.ext h.1 h.2,fun h=>by rw [h];exact ⟨rfl,rfl⟩⟩
theorem sameB_no {x y:Blk} (h:x≠y):sameB x y=false:=by
 rw [← Bool.not_eq_true,sameB_iff]
 exact h
theorem run_neq_blk (x o y p:Int) (W:World):(binOp .neq 57 (.agg #[.int .i64 x, .int .i64 o]) (.agg #[.int .i64 y, .int .i64 p])).run Tryz.prog W = .ok (.bool (!sameB (x,o) (y,p))) W:=by
 have u3:=Tryz.underlying3
 have a3:=Tryz.isAgg3
 have z3:=Tryz.sizeOf3
 have hS:Tryz.prog.underlying 57=some (.struct (Tryz.prog.fieldsOf 57)):=by kernel_rfl
 have hp:Tryz.prog.stoodInHeld 57=false:=by kernel_rfl
 rw [run_neq_struct,show (10000:Nat)=9999+1 from rfl,run_equalIn_agg W 9999 57 _ _ hS hp]
 simp only [Program.fieldsOf,Tryz.underlying57]
 unfold sameB
 go_simp
 by_cases h1:x=y <;> by_cases h2:o=p <;> simp [h1,h2]
theorem noGuard:Tryz.prog.eqGuardType Tryz.prog.depth 57=false:=by kernel_rfl
def mayFol (a b:Blk):Bool:=decide (a.1 < b.1) && !sameB b (twin a)
set_option maxHeartbeats 1000000 in
theorem mayFollow_any (a b:Blk) (w:World) (ha:0≤a.2∧a.2≤8) (ra:0≤a.1∧a.1≤256) :
  Calls Tryz.prog 164 #[bval a,bval b] w (Says w (.bool (mayFol a b))):=by
 have S1:=fun W=>twin_any a W ha ra
 obtain ⟨x,o⟩:=a
 obtain ⟨y,p⟩:=b
 unfold mayFol
 simp only
 obtain ⟨⟨u,v⟩,huv⟩ : ∃ c,c=twin (x,o):=⟨_,rfl⟩
 rw [← huv] at S1 ⊢
 clear huv
 have q:=run_neq_blk y p u v
 obtain ⟨r,hr⟩ : ∃ r,r=sameB (y,p) (u,v):=⟨_,rfl⟩
 rw [← hr] at q ⊢
 clear hr
 have hm:=noGuard
 unfold bval enc2 at S1 ⊢
 simp only at S1 ⊢
 have g1:Grew w ((w.alloc (.cells #[.int .i64 x, .int .i64 o] 57)).alloc (.cells #[.int .i64 y, .int .i64 p] 57)):=((Grew.refl w).alloc _).alloc _
 have B1:=(Box2.new w (x,o) 57).alloc (.cells #[.int .i64 y, .int .i64 p] 57)
 have B2:=Box2.new (w.alloc (.cells #[.int .i64 x, .int .i64 o] 57)) (y,p) 57
 simp only [World.size_alloc] at B2
 have mixed:Tryz.prog.follows .mixedOrders=true:=by kernel_rfl
 by_cases h1:x < y
 ·have hd:decide (x < y)=true:=decide_eq_true h1
  rw [hd,Bool.true_and]
  go_enter Tryz.func164,Tryz.ntmps164
  go_wp2_with fail
  generalize (w.alloc (.cells #[.int .i64 x, .int .i64 o] 57)).alloc (.cells #[.int .i64 y, .int .i64 p] 57)=w1 at g1 B1 B2 ⊢
  have c0:=B1.g0
  have c1:=B1.g1
  have d0:=B2.g0
  have d1:=B2.g1
  simp only at c0 c1 d0 d1
  clear B1 B2
  refine wp_region_quiet_grown mixed (by kernel_rfl) ?_
  repeat (go_big_quiet_step ((go_at_call 128;exact calls_grown_says (S1 _))))
  refine wpQuiet_nil ?_
  intro _ hw'
  obtain ⟨⟨nq,osq⟩,hw''⟩:=hw'
  subst hw''
  have g2:=g1.grow nq osq
  go_wp2
  go_ret
  exact ⟨rfl,g2⟩
 ·have hd:decide (x < y)=false:=decide_eq_false h1
  rw [hd,Bool.false_and]
  go_enter Tryz.func164,Tryz.ntmps164
  go_wp2_with fail
  generalize (w.alloc (.cells #[.int .i64 x, .int .i64 o] 57)).alloc (.cells #[.int .i64 y, .int .i64 p] 57)=w1 at g1 B1 B2 ⊢
  have c0:=B1.g0
  have c1:=B1.g1
  have d0:=B2.g0
  have d1:=B2.g1
  simp only at c0 c1 d0 d1
  clear B1 B2
  refine wp_region_quiet_grown mixed (by kernel_rfl) ?_
  repeat (go_big_quiet_step ((go_at_call 128;exact calls_grown_says (S1 _))))
  refine wpQuiet_nil ?_
  intro _ hw'
  obtain ⟨⟨nq,osq⟩,hw''⟩:=hw'
  subst hw''
  have g2:=g1.grow nq osq
  go_wp2
  go_ret
  exact ⟨rfl,g2⟩
def allTkn (l:List Bool) (b:Blk):Bool:=runL l b.1 (wordsI b.2) false == b.1
set_option maxHeartbeats 1000000 in
theorem allTaken_any (g h:Nat) (l:List Bool) (b:Blk) (w:World) (m:MapAt w g h l) (hT:Tab w) :
  Calls Tryz.prog 133 #[.pointer (some ⟨g,0,none⟩),bval b] w (Says w (.bool (allTkn l b))):=by
 have S1:=fun W=>words_any b.2 W
 obtain ⟨y,p⟩:=b
 unfold allTkn
 simp only at *
 obtain ⟨s,hs⟩ : ∃ s,s=wordsI p:=⟨_,rfl⟩
 rw [← hs] at S1 ⊢
 clear hs
 have g1:Grew w (w.alloc (.cells #[.int .i64 y, .int .i64 p] 57)):=(Grew.refl w).alloc _
 have S2:=fun n os=>run_any g h l y s false (Go.Sort.grow ((w.alloc (.cells #[.int .i64 y, .int .i64 p] 57)).drewN n) os) (m.below (g1.grow n os).below) (hT.below (g1.grow n os).below)
 obtain ⟨r,hr⟩ : ∃ r,r=runL l y s false:=⟨_,rfl⟩
 rw [← hr] at S2 ⊢
 clear hr m hT
 unfold bval enc2
 simp only
 have B1:=Box2.new w (y,p) 57
 have mixed:Tryz.prog.follows .mixedOrders=true:=by kernel_rfl
 go_enter Tryz.func133,Tryz.ntmps133
 go_wp2_with fail
 generalize w.alloc (.cells #[.int .i64 y, .int .i64 p] 57)=w1 at g1 B1 S2 ⊢
 have c0:=B1.g0
 have c1:=B1.g1
 simp only at c0 c1
 clear B1
 refine wp_region_quiet_grown mixed (by kernel_rfl) ?_
 repeat (go_big_quiet_step (first | (go_at_call 16;exact calls_grown_same (S1 _)) | (go_at_call 180;exact calls_grown_same (S2 _ _))))
 refine wpQuiet_nil ?_
 intro _ hw'
 obtain ⟨⟨nq,osq⟩,hw''⟩:=hw'
 subst hw''
 have g2:=g1.grow nq osq
 go_wp2
 go_ret
 exact ⟨rfl,g2⟩
end Go.Proofs.YtcodpnbemdflcaaGreatDoor
namespace Go.Proofs.YtcodpnbemdflcaaGreatDoor
open Go.RowKit
theorem twin_twin {r:Int} {b:Blk} (hr:r≤8) (h:May r b):twin (twin b)=b:=by
 obtain ⟨x,o⟩:=b
 obtain ⟨k0,k1,k2,k3,k4⟩:=h
 simp only at *
 unfold twin
 simp only
 rcases ords k0 (by omega) with h | h | h | h | h | h | h | h | h <;> subst h <;> simp only [sz0,sz1,sz2,sz3,sz4,sz5,sz6,sz7,sz8] at * <;> split <;> simp only [sz0,sz1,sz2,sz3,sz4,sz5,sz6,sz7,sz8] <;> split <;> simp <;> omega
def Comes (r:Int) (fs:List Blk) (b:Blk):Prop:=May r b∧(∀ a ∈ fs, ¬ Meets b a) ∧ ∀ a,fs.getLast? = some a→mayFol a b=true
theorem mayFol_iff (a b:Blk):mayFol a b=true ↔ a.1 < b.1∧b≠twin a:=by
 unfold mayFol
 rw [Bool.and_eq_true,decide_eq_true_iff,Bool.not_eq_true']
 constructor
 ·rintro ⟨h1,h2⟩
  exact ⟨h1,fun e=>by rw [(sameB_iff _ _).2 e] at h2;cases h2⟩
 ·rintro ⟨h1,h2⟩
  exact ⟨h1,sameB_no h2⟩
theorem last_mem {l:List Blk} {a:Blk} (h:l.getLast? = some a):a ∈ l:=List.mem_of_getLast? h
theorem rise_last : ∀ {l:List Blk} {a b:Blk},l.Pairwise (fun a b=>a.1 < b.1)→l.getLast? = some a→b ∈ l→b=a∨b.1 < a.1:=by
 intro l a b h hl hb
 obtain ⟨l',rfl⟩:=List.getLast?_eq_some_iff.1 hl
 rw [List.pairwise_append] at h
 rcases List.mem_append.1 hb with e | e
 ·exact .inr (h.2.2 b e a (by simp))
 ·exact .inl (by simpa using e)
theorem right_snoc {r:Int} {fs:List Blk} {b:Blk} (h:Right r fs):Right r (fs ++ [b]) ↔ Comes r fs b:=by
 have hr8:=h.1.2
 constructor
 ·intro k
  have hb:b ∈ fs ++ [b]:=by simp
  have hp:=k.2.2
  rw [List.pairwise_append] at hp
  have hA : ∀ a ∈ fs,Ahd r a b:=fun a ha=>hp.2.2 a ha b (by simp)
  refine ⟨k.2.1 b hb,fun a ha=>(hA a ha).2.1,fun a ha => ?_⟩
  have hm:=last_mem ha
  have hAh:=hA a hm
  refine (mayFol_iff a b).2 ⟨hAh.1,fun e => ?_⟩
  have hMa:=h.may hm
  by_cases hlt:a.2 < r
  ·exact hAh.2.2 ⟨by rw [e,twin_ord];exact hlt,by rw [e];exact twin_twin hr8 hMa⟩
  ·have hb2:b.2=a.2:=by rw [e,twin_ord]
   have hMb:=k.2.1 b hb
   have e1:a.2=r:=by have:=hMa.2.1;omega
   have:=hMa.2.2.1
   have h3:=hMb.2.2.2.1
   rw [hb2,e1] at h3
   have:=hAh.1
   omega
 ·rintro ⟨h1,h2,h3⟩
  refine ⟨h.1,fun c hc => ?_,?_⟩
  ·rcases List.mem_append.1 hc with e | e
   ·exact h.2.1 c e
   ·rw [show c=b by simpa using e];exact h1
  ·rw [List.pairwise_append]
   refine ⟨h.2.2,List.pairwise_singleton _ _,fun a ha c hc => ?_⟩
   rw [show c=b by simpa using hc]
   obtain ⟨z,hz⟩ : ∃ z,fs.getLast? = some z:=by
    cases e:fs.getLast? with
    | none=>rw [List.getLast?_eq_none_iff] at e;subst e;cases ha
    | some z=>exact ⟨z,rfl⟩
   obtain ⟨f1,f2⟩:=(mayFol_iff z b).1 (h3 z hz)
   have hza:=rise_last h.rise hz ha
   have hlt:a.1 < b.1:=by
    rcases hza with e | e
    ·rw [e];exact f1
    ·omega
   refine ⟨hlt,h2 a ha,?_⟩
   rintro ⟨hb,ht⟩
   rcases hza with e | e
   ·subst e
    exact f2 (by rw [← ht];exact (twin_twin hr8 h1).symm)
   ·have hMa:=h.may ha
    have hsz:a.2=b.2:=by rw [← ht,twin_ord]
    have hp:=sz_pos b.2
    have ha1:b.1=a.1+sz b.2:=by
     have:=congrArg Prod.fst ht
     unfold twin at this
     split at this <;> simp only at this <;> omega
    have hzp:=sz_pos z.2
    have hmz:Meets z a:=⟨by rw [hsz];omega,by omega⟩
    have:=h.apart (last_mem hz) ha hmz
    rw [this] at e
    omega
theorem right_prefix {r:Int} {l:List Blk} (h:Right r l) (k:Nat):Right r (l.take k):=h.sub (List.take_sublist k l)
theorem right_nil {r:Int} (h:3≤r∧r≤8):Right r []:=⟨h,(fun _ h=>by cases h),List.Pairwise.nil⟩
def Mapped (r:Int) (fs:List Blk) (m:List Bool):Prop:=(m.length:Int)=sz r ∧ ∀ x:Nat,x < m.length→(isOn m x=true ↔ Cov fs (x:Int))
theorem mapped_nil (r:Int):Mapped r [] (List.replicate (sz r).toNat false):=by
 have:=sz_pos r
 refine ⟨by simp;omega,fun x hx => ?_⟩
 constructor
 ·intro h
  have e:isOn (List.replicate (sz r).toNat false) x=false:=by
   unfold isOn
   rw [List.getD_eq_getElem?_getD,List.getElem?_replicate]
   split <;> rfl
  rw [e] at h
  cases h
 ·rintro ⟨b,hb,_⟩;cases hb
theorem cov_snoc (fs:List Blk) (b:Blk) (x:Int):Cov (fs ++ [b]) x ↔ Cov fs x∨InB b x:=by
 unfold Cov
 constructor
 ·rintro ⟨c,hc,hx⟩
  rcases List.mem_append.1 hc with e | e
  ·exact .inl ⟨c,e,hx⟩
  ·rw [show c=b by simpa using e] at hx;exact .inr hx
 ·rintro (⟨c,hc,hx⟩ | hx)
  ·exact ⟨c,List.mem_append_left _ hc,hx⟩
  ·exact ⟨b,by simp,hx⟩
theorem Mapped.put {r:Int} {fs:List Blk} {m:List Bool} {b:Blk} (h:Mapped r fs m) (hb:May r b):putV m b.1 (sz b.2) true=putL m b.1.toNat (sz b.2).toNat true∧putE m b.1 (sz b.2)=0∧Mapped r (fs ++ [b]) (putV m b.1 (sz b.2) true):=by
 obtain ⟨h1,h2⟩:=h
 obtain ⟨k0,k1,k2,k3,k4⟩:=hb
 have hp:=sz_pos b.2
 have hm:mayPut m b.1 (sz b.2)=true:=decide_eq_true ⟨k2,by omega,by omega⟩
 have e1:putV m b.1 (sz b.2) true=putL m b.1.toNat (sz b.2).toNat true:=by unfold putV;rw [hm,if_pos rfl]
 refine ⟨e1,by unfold putE;rw [hm];rfl,?_⟩
 rw [e1]
 refine ⟨by rw [putL_length];exact h1,fun x hx => ?_⟩
 rw [putL_length] at hx
 rw [putL_isOn m _ _ _ hx,cov_snoc]
 by_cases hi:b.1.toNat≤x∧x < b.1.toNat+(sz b.2).toNat
 ·rw [if_pos hi]
  exact ⟨fun _ => .inr ⟨by omega,by omega⟩,fun _=>rfl⟩
 ·rw [if_neg hi,h2 x hx]
  exact ⟨fun h => .inl h,fun h=>h.elim id fun h=>absurd (⟨by have:=h.1;omega,by have:=h.2;omega⟩:b.1.toNat≤x∧x < b.1.toNat+(sz b.2).toNat) hi⟩
theorem runL_at {m:List Bool} {a n:Nat} {on:Bool} (hn:1≤n):runL m (a:Int) (n:Int) on=(a:Int) ↔ runAt m a n on=true:=by
 constructor
 ·intro h
  by_cases hr:runAt m a n on=true
  ·exact hr
  ·exfalso
   unfold runL at h
   rw [if_neg (by omega)] at h
   split at h
   ·rename_i i hi
    have:=List.find?_some hi
    simp only [Bool.and_eq_true,decide_eq_true_iff,Int.toNat_natCast] at this
    have e:i=a:=by omega
    subst e
    exact hr this.2
   ·omega
 ·intro h
  have hl:=(runAt_iff.1 h).1
  exact runL_some (by omega) (by omega) (Int.le_refl _) (by rw [Int.toNat_natCast];exact h) (fun j hj hja=>by omega)
theorem Mapped.taken {r:Int} {fs:List Blk} {m:List Bool} {b:Blk} (hf : ∀ a ∈ fs,May r a) (h:Mapped r fs m) (hr:r≤8) (hb:May r b):allTkn m b=true ↔ ∀ a ∈ fs, ¬ Meets b a:=by
 obtain ⟨h1,h2⟩:=h
 obtain ⟨k0,k1,k2,k3,k4⟩:=hb
 have hp:=sz_pos b.2
 obtain ⟨x,o⟩:=b
 simp only at *
 obtain ⟨a,rfl⟩:=Int.eq_ofNat_of_zero_le k2
 obtain ⟨n,hn⟩:=Int.eq_ofNat_of_zero_le (Int.le_of_lt hp)
 unfold allTkn
 rw [wordsI_in k0 (by omega),hn,beq_iff_eq,runL_at (by omega),runAt_iff]
 constructor
 ·rintro ⟨e1,e2⟩ c hc hm
  obtain ⟨q1,q2⟩:=hm
  have hcp:=sz_pos c.2
  simp only at q1 q2
  have hMc:=hf c hc
  -- a word in both
  obtain ⟨y,hy⟩ : ∃ y:Nat,(y:Int)=max (a:Int) c.1:=⟨(max (a:Int) c.1).toNat,by omega⟩
  have hon:=(h2 y (by omega)).2 ⟨c,hc,by omega,by omega⟩
  have:=e2 (y - a) (by omega)
  rw [show a+(y - a)=y by omega,hon] at this
  cases this
 ·intro h3
  refine ⟨by omega,fun k hk => ?_⟩
  cases hon:isOn m (a+k) with
  | false=>rfl
  | true =>
   obtain ⟨c,hc,hx⟩:=(h2 (a+k) (by omega)).1 hon
   exact absurd (meets_of (a:=((a:Int),o)) ⟨by simp only;omega,by simp only [hn];omega⟩ hx) (h3 c hc)
end Go.Proofs.YtcodpnbemdflcaaGreatDoor
namespace Go.Proofs.YtcodpnbemdflcaaGreatDoor
open Go.RowKit
def MapOf (w:World) (r:Int) (l:List Blk) (e:Ending) (w':World):Prop :=
 ∃ g h m,e = .returned (.tuple #[.pointer (some ⟨g,0,none⟩), .bool true])∧MapAt w' g h m∧Mapped r l m∧w.heap.size≤g∧w.heap.size≤h∧Below w.heap.size w w'
def FwRel (w:World) (r:Int) (l:List Blk) (g h:Nat) (i:Value) (wr:World):Prop :=
 ∃ (k:Nat) (m:List Bool),i = .int .i64 (k:Int)∧k≤l.length∧Right r (l.take k)∧Mapped r (l.take k) m∧MapAt wr g h m∧Below w.heap.size w wr
def NoWords (w:World) (e:Ending) (w':World):Prop:=e = .returned (.tuple #[.pointer none, .bool false])∧Below w.heap.size w w'
theorem take_snocB {l:List Blk} {k:Nat} {x:Blk} (h:l[k]? = some x):l.take (k+1)=l.take k ++ [x]:=by
 have hk:k < l.length:=(List.getElem?_eq_some_iff.1 h).1
 rw [List.take_add_one,h]
 rfl
theorem last_take {l:List Blk} {k:Nat} {x:Blk} (h:l[k]? = some x):(l.take (k+1)).getLast? = some x:=by
 rw [take_snocB h];simp
set_option maxHeartbeats 400000 in
theorem freeWords_out (r:Int) (A:Option Addr) (n c:Nat) (w:World) (hr : ¬ (3≤r∧r≤8)) :
  Calls Tryz.prog 120 #[.int .i64 r, .slice A n c] w (NoWords w):=by
 have S1:=fun W=>words_any r W
 obtain ⟨s,hs⟩ : ∃ s,s=wordsI r:=⟨_,rfl⟩
 have hs1:0≤s∧s≤256:=by
  rw [hs]
  unfold wordsI
  split
  ·rename_i h;exact ⟨Int.le_of_lt (sz_pos r),sz_le256 h.1 h.2⟩
  ·omega
 rw [← hs] at S1
 obtain ⟨k,rfl⟩:=Int.eq_ofNat_of_zero_le hs1.1
 have S2:=new_yes k w (by omega)
 have S3:=fun W=>isRegion_any r W
 rw [decide_eq_false hr] at S3
 clear hs hs1 hr
 go_enter Tryz.func120,Tryz.ntmps120
 go_wp2_with (first | (go_at_call 16;refine (S1 _).mono ?_;rintro e w1 ⟨rfl,rfl⟩) | (go_at_call 163;refine S2.mono ?_;rintro e w1 ⟨g,h,rfl,m1,hg,hh,b1⟩) | (go_at_call 31;refine (S3 _).mono ?_;rintro e w2 ⟨rfl,rfl⟩))
 go_ret2
 exact ⟨rfl,b1⟩
set_option maxRecDepth 100000 in
set_option maxHeartbeats 4000000 in
theorem freeWords_in (r:Int) (A:Option Addr) (n c:Nat) (l:List Blk) (w:World) (hr:3≤r∧r≤8) (h:RdS w A n l) (hn:n≤1000) (hT:Tab w) :
  Calls Tryz.prog 120 #[.int .i64 r, .slice A n c] w fun e w'=>(Right r l∧MapOf w r l e w')∨(¬ Right r l∧NoWords w e w'):=by
 have hlen:=h.len
 have S1:=fun W=>words_any r W
 rw [wordsI_in (by omega) hr.2] at S1
 have hs0:=sz_pos r
 have hs1:=sz_le256 (o:=r) (by omega) hr.2
 obtain ⟨k0,hk0⟩:=Int.eq_ofNat_of_zero_le (Int.le_of_lt hs0)
 have hmp:=mapped_nil r
 rw [hk0,Int.toNat_natCast] at hmp
 rw [hk0] at S1
 have S2:=new_yes k0 w (by omega)
 have S3:=fun W=>isRegion_any r W
 rw [decide_eq_true hr] at S3
 have HR:=Lib.hid h
 have HT:=Lib.hid hT
 clear h hT
 go_enter Tryz.func120,Tryz.ntmps120
 go_wp2_with (first | (go_at_call 16;refine (S1 _).mono ?_;rintro e w1 ⟨rfl,rfl⟩) | (go_at_call 163;refine S2.mono ?_;rintro e w1 ⟨g,h,rfl,m1,hg,hh,b1⟩) | (go_at_call 31;refine (S3 _).mono ?_;rintro e w2 ⟨rfl,rfl⟩))
 clear S1 S2 S3
 go_loopw [25] (FwRel w r l g h) (fun i _=>n - (intOf i).toNat)
 case atStart=>exact ⟨0,_,rfl,Nat.zero_le _,right_nil hr,hmp,m1,b1⟩
 case round =>
  clear m1 b1 hmp hk0 hs0 hs1
  obtain ⟨k,m,rfl,hk,hR,hM,mA,bw⟩:=hrel
  by_cases hlt:k < n
  ·obtain ⟨b,off,x,rfl,hbl,hx,hc0,hc1⟩:=HR.out.cell hlt
   have c0:=(bw.cell (p:=⟨b,off+k*2,none⟩) hbl).trans hc0
   have c1:=(bw.cell (p:=⟨b,off+k*2+1,none⟩) hbl).trans hc1
   have hsn:=right_snoc (b:=x) hR
   rw [← take_snocB hx] at hsn
   have hno : ¬ Comes r (l.take k) x → ¬ Right r l:=fun hq hRl=>hq (hsn.1 (right_prefix hRl _))
   have g1:=(Grew.refl wr).alloc (.cells #[.int .i64 x.1, .int .i64 x.2] 57)
   have B1:=Box2.new wr x 57
   have M1:=fun W=>mayBe_any r x W (by omega)
   have M2:=fun (W:World) (G:Grew (wr.alloc (.cells #[.int .i64 x.1, .int .i64 x.2] 57)) W)=>allTaken_any g h m x W (mA.below (g1.trans G).below) (HT.out.below (bw.trans ((g1.trans G).below.mono bw.size)))
   have hTr:=bw.size
   by_cases hm:May r x
   ·rw [decide_eq_true hm] at M1
    have htk:=hM.taken hR.2.1 hr.2 hm
    cases ht:allTkn m x with
    | false =>
     have hn1:=Lib.hid (hno (fun q=>by have:=htk.2 q.2.1;rw [ht] at this;cases this))
     rw [ht] at M2
     obtain ⟨x0,x1⟩:=x
     unfold bval enc2 at M1 M2
     simp only at *
     clear hsn hno htk
     go_wp2_with (first | (go_at_call 132;refine (M1 _).mono ?_;rintro e w2 ⟨rfl,G2⟩;have e0:=(B1.below G2.below).c0;have e1:=(B1.below G2.below).c1) | (go_at_call 133;refine (M2 _ G2).mono ?_;rintro e w3 ⟨rfl,G3⟩))
     go_ret2
     exact .inr ⟨hn1.out,rfl,bw.trans (((g1.trans G2).trans G3).below.mono bw.size)⟩
    | true =>
     have hdis:=htk.1 ht
     rw [ht] at M2
     have mixed:Tryz.prog.follows .mixedOrders=true:=by kernel_rfl
     obtain ⟨p1,p2,p3⟩:=hM.put hm
     have P:=fun (W:World) (G:Grew (wr.alloc (.cells #[.int .i64 x.1, .int .i64 x.2] 57)) W)=>put_any g h m x.1 (sz x.2) true W (mA.below (g1.trans G).below) (by have:=hm.2.2.2.1;have:=sz_pos x.2;have:=sz_le256 (o:=r) (by omega) hr.2;omega)
     rw [p2] at P
     have W1:=fun W=>words_any x.2 W
     rw [wordsI_in hm.1 (by have:=hm.2.1;omega)] at W1
     have Hp:=Lib.hid p3
     have Hs:=Lib.hid hsn
     have Hno:=Lib.hid hno
     have Hd:=Lib.hid hdis
     have HM:=Lib.hid hm
     have Hx:=Lib.hid hx
     clear p1 p2 p3 hsn hno htk hdis hm hM
     obtain ⟨x0,x1⟩:=x
     unfold bval enc2 at M1 M2
     simp only at *
     go_wp2_with (first | (go_at_call 132;refine (M1 _).mono ?_;rintro e w2 ⟨rfl,G2⟩;have e0:=(B1.below G2.below).c0;have e1:=(B1.below G2.below).c1) | (go_at_call 133;refine (M2 _ G2).mono ?_;rintro e w3 ⟨rfl,G3⟩))
     have d0:Box2 w3 wr.heap.size (x0,x1):=(B1.below G2.below).below G3.below
     have GG:=g1.trans (G2.trans G3)
     have GH:=G2.trans G3
     have bw3:=bw.trans (GG.below.mono bw.size)
     clear M1 M2 c0 c1 e0 e1 B1
     by_cases hk0:k=0
     ·have hd:decide (0 < (k:Int))=false:=by simp;omega
      refine wp_region_quiet_grown mixed (by kernel_rfl) ?_
      repeat (go_big_quiet_step (fail))
      refine wpQuiet_nil ?_
      intro _ hw'
      obtain ⟨⟨nq,osq⟩,hw''⟩:=hw'
      subst hw''
      have G4:=(Grew.refl w3).grow nq osq
      generalize Go.Sort.grow (w3.drewN nq) osq=w4 at G4 ⊢
      have d4:=d0.below G4.below
      have e0:=d4.c0
      have e1:=d4.c1
      clear d0 d4 hd
      have hfol : ∀ a,(l.take k).getLast? = some a→mayFol a (x0,x1)=true:=fun a ha=>by rw [hk0] at ha;simp at ha
      go_wp2_with fail
      go_region_with (first | (go_at_call 16;refine (W1 _).mono ?_;rintro e w5 ⟨rfl,rfl⟩) | (go_at_call 165;refine (P _ (GH.trans G4).drew).mono ?_;rintro e w6 ⟨rfl,m6,g6⟩))
      all_goals
       go_wp2
       go_roundw
       case rel=>exact ⟨k+1,_,by go_num,by omega,Hs.out.2 ⟨HM.out,Hd.out,hfol⟩,by rw [take_snocB Hx.out];exact Hp.out,m6,below_grown (bw3.trans (G4.drew.below.mono bw3.size)) g6 (Nat.le_trans bw3.size G4.drew.below.size) hh⟩
       case measure=>simp [intOf];omega
     ·have hd:decide (0 < k)=true:=by simp;omega
      obtain ⟨q,hq⟩ : ∃ q,q=k - 1:=⟨_,rfl⟩
      have hkq:=Lib.hid (show k=q+1 by omega)
      have hq0:IntKind.i64.wrap ((k:Int) - 1)=(q:Int):=by rw [IntKind.wrap_i64];omega
      have hqn:q < n:=by omega
      have hqi:(q:Int) < (n:Int):=by omega
      obtain ⟨b',off',y,hbo,_,hy,y0,y1⟩:=HR.out.cell hqn
      injection hbo with hbo
      injection hbo with hb1 hb2
      subst hb1
      subst hb2
      have hyt:y ∈ l.take k:=by rw [hkq.out];exact List.mem_of_getElem? (i:=q) (by rw [List.getElem?_take,if_pos (by omega)];exact hy)
      have hMy:=hR.may hyt
      have hlast:(l.take k).getLast? = some y:=by rw [hkq.out];exact last_take hy
      have hsy:=sz_pos y.2
      have hsr:=sz_le256 (o:=r) (by omega) hr.2
      have F1:=fun W=>mayFollow_any y (x0,x1) W ⟨hMy.1,by have:=hMy.2.1;omega⟩ ⟨hMy.2.2.1,by have:=hMy.2.2.2.1;omega⟩
      have z0:=cell_grown (a:=⟨b,off+q*2,none⟩) (Nat.lt_of_lt_of_le hbl bw3.size) ((bw3.cell (p:=⟨b,off+q*2,none⟩) hbl).trans y0)
      have z1:=cell_grown (a:=⟨b,off+q*2+1,none⟩) (Nat.lt_of_lt_of_le hbl bw3.size) ((bw3.cell (p:=⟨b,off+q*2+1,none⟩) hbl).trans y1)
      have v0:=d0.g0
      have v1:=d0.g1
      simp only at v0 v1
      have hall:=Lib.hid (fun hf:mayFol y (x0,x1)=true=>show ∀ a,(l.take k).getLast? = some a→mayFol a (x0,x1)=true from fun a ha=>by rw [hlast] at ha;injection ha with ha;rw [← ha];exact hf)
      have hbad:=Lib.hid (fun hf:mayFol y (x0,x1)=false=>Hno.out fun qq=>by have:=qq.2.2 y hlast;rw [hf] at this;cases this)
      clear hq hyt hMy hlast hsy hsr y0 y1 hy hx hc0 hc1 hR
      obtain ⟨ya,yo⟩:=y
      unfold bval enc2 at F1
      simp only at *
      cases hf:mayFol (ya,yo) (x0,x1) with
      | false =>
       rw [hf] at F1
       have hb2:=Lib.hid (hbad.out hf)
       clear hall hbad hf
       refine wp_region_quiet_grown mixed (by kernel_rfl) ?_
       repeat (go_big_quiet_step ((go_at_call 164;exact calls_grown_says (F1 _))))
       refine wpQuiet_nil ?_
       intro _ hw'
       obtain ⟨⟨nq,osq⟩,hw''⟩:=hw'
       subst hw''
       have G4:=(Grew.refl w3).grow nq osq
       generalize Go.Sort.grow (w3.drewN nq) osq=w4 at G4 ⊢
       have d4:=d0.below G4.below
       have e0:=d4.c0
       have e1:=d4.c1
       clear d0 d4 hd z0 z1 v0 v1 F1 hq0
       go_wp2
       go_ret2
       exact .inr ⟨hb2.out,rfl,bw3.trans (G4.below.mono bw3.size)⟩
      | true =>
       rw [hf] at F1
       have hfol:=Lib.hid (hall.out hf)
       clear hall hbad hf
       refine wp_region_quiet_grown mixed (by kernel_rfl) ?_
       repeat (go_big_quiet_step ((go_at_call 164;exact calls_grown_says (F1 _))))
       refine wpQuiet_nil ?_
       intro _ hw'
       obtain ⟨⟨nq,osq⟩,hw''⟩:=hw'
       subst hw''
       have G4:=(Grew.refl w3).grow nq osq
       generalize Go.Sort.grow (w3.drewN nq) osq=w4 at G4 ⊢
       have d4:=d0.below G4.below
       have e0:=d4.c0
       have e1:=d4.c1
       clear d0 d4 hd z0 z1 v0 v1 F1 hq0
       go_wp2_with fail
       go_region_with (first | (go_at_call 16;refine (W1 _).mono ?_;rintro e w5 ⟨rfl,rfl⟩) | (go_at_call 165;refine (P _ (GH.trans G4).drew).mono ?_;rintro e w6 ⟨rfl,m6,g6⟩))
       all_goals
        go_wp2
        go_roundw
        case rel=>exact ⟨k+1,_,by go_num,by omega,Hs.out.2 ⟨HM.out,Hd.out,hfol.out⟩,by rw [take_snocB Hx.out];exact Hp.out,m6,below_grown (bw3.trans (G4.drew.below.mono bw3.size)) g6 (Nat.le_trans bw3.size G4.drew.below.size) hh⟩
        case measure=>simp [intOf];omega
   ·rw [decide_eq_false hm] at M1
    have hn1:=Lib.hid (hno (fun q=>hm q.1))
    obtain ⟨x0,x1⟩:=x
    unfold bval enc2 at M1 M2
    simp only at *
    clear hsn hno
    go_wp2_with (first | (go_at_call 132;refine (M1 _).mono ?_;rintro e w2 ⟨rfl,G2⟩;have e0:=(B1.below G2.below).c0;have e1:=(B1.below G2.below).c1) | (go_at_call 133;refine (M2 _ G2).mono ?_;rintro e w3 ⟨rfl,G3⟩))
    go_ret2
    exact .inr ⟨hn1.out,rfl,bw.trans ((g1.trans G2).below.mono bw.size)⟩
  ·obtain rfl:k=n:=by omega
   have hRl:Right r l:=by rw [List.take_of_length_le (by omega)] at hR;exact hR
   have hMl:Mapped r l m:=by rw [List.take_of_length_le (by omega)] at hM;exact hM
   go_wp2
   go_ret2
   exact .inl ⟨hRl,g,h,m,rfl,mA,hMl,hg,hh,bw⟩
end Go.Proofs.YtcodpnbemdflcaaGreatDoor

/-
  What is taken, given back: plain mathematics. How many words right blocks have.
  How many words of a map are true that is the map of right blocks: plain mathematics.
-/
import Derived.Test.YtcodpnbemdflcaaGreatDoorTg12
namespace Go.Proofs.YtcodpnbemdflcaaGreatDoor
open Go.RowKit
theorem Took.fits {r t:Int} {l m:List Blk} {b:Blk} (hR:Right r l) (ht:0≤t) (h:Took l t b m):Fits r m b:=by
 obtain ⟨h1,h2,h3⟩:=h.may hR ht
 obtain ⟨h4,h5⟩:=h.right hR ht
 refine ⟨h1,fun a ha hm => ?_⟩
 have hpa:=sz_pos a.2
 have hpb:=sz_pos b.2
 obtain ⟨y,hy1,hy2⟩ : ∃ y,InB b y∧InB a y:=⟨max b.1 a.1,by unfold InB;have:=hm.1;have:=hm.2;omega,by unfold InB;have:=hm.1;have:=hm.2;omega⟩
 exact ((h5 y).1 ⟨a,ha,hy2⟩).2 hy1
theorem Took.back {r t:Int} {l m:List Blk} {b:Blk} (hR:Right r l) (ht:0≤t) (h:Took l t b m):GiveRes r m b l 0:=by
 obtain ⟨h1,h2,h3⟩:=h.may hR ht
 obtain ⟨h4,h5⟩:=h.right hR ht
 refine .inr (.inr ⟨h4,h.fits hR ht,rfl,hR,fun x => ?_⟩)
 rw [h5 x]
 constructor
 ·intro hx
  by_cases hb:InB b x
  ·exact .inr hb
  ·exact .inl ⟨hx,hb⟩
 ·rintro (hx | hx)
  ·exact hx.1
  ·exact h3 x hx
theorem sumL_cons (b:Blk) (l:List Blk):sumL (b :: l)=sz b.2+sumL l:=by simp [sumL]
theorem sumL_append (l m:List Blk):sumL (l++m)=sumL l+sumL m:=by simp [sumL]
theorem sumL_perm {l m:List Blk} (h:l.Perm m):sumL l=sumL m:=by
 induction h with
 | nil=>rfl
 | cons x _ ih=>rw [sumL_cons,sumL_cons,ih]
 | swap x y l=>simp only [sumL_cons];omega
 | trans _ _ h1 h2=>exact h1.trans h2
theorem halves_sum {r t:Int} {l:List Blk} {B:Blk} (hR:Right r l) (hB:B ∈ l) (ht:0≤t) : ∀ (n:Nat),(n:Int)≤B.2 - t → ∃ m,TkInv l B (B.2 - n) m∧sumL m+sz (B.2 - n)=sumL l
 | 0,_=>by
  have hp:=woL_perm (rest:=l.erase B) hR (List.perm_cons_erase hB).symm
  refine ⟨woL l B,by simpa using TkInv.start hR,?_⟩
  have h1:=sumL_perm (List.perm_cons_erase hB)
  rw [sumL_cons] at h1
  have h2:=sumL_perm hp
  simp only [Int.natCast_zero,Int.sub_zero]
  omega
 | n+1,hn=>by
  obtain ⟨m,h1,h2⟩:=halves_sum hR hB ht n (by omega)
  have h3:=TkInv.step hR hB (by omega) (by omega) h1
  refine ⟨_,by rw [show B.2 - ((n+1:Nat):Int)=B.2 - n - 1 by omega];exact h3,?_⟩
  rw [show B.2 - ((n+1:Nat):Int)=B.2 - n - 1 by omega,sumL_perm (ins_perm _ m),sumL_cons]
  have h4:=sz_succ (o:=B.2 - n - 1) (by omega)
  rw [show B.2 - (n:Int) - 1+1=B.2 - n by omega] at h4
  simp only
  omega
theorem Took.sum {r t:Int} {l m:List Blk} {b:Blk} (hR:Right r l) (ht:0≤t) (h:Took l t b m):sumL m+sz t=sumL l:=by
 obtain ⟨B,h1,h2,h3,rfl,h5,h6⟩:=h
 obtain ⟨m',⟨k1,k2⟩,k3⟩:=halves_sum hR h1 ht (B.2 - t).toNat (by omega)
 rw [show B.2 - ((B.2 - t).toNat:Int)=t by omega] at k2 k3
 rw [rise_ext h5 k1 fun c=>by rw [h6,k2]]
 exact k3
end Go.Proofs.YtcodpnbemdflcaaGreatDoor
namespace Go.Proofs.YtcodpnbemdflcaaGreatDoor
open Go.RowKit
theorem cnt_all (f:Nat→Bool) (x:Bool) : ∀ n,(∀ i,i < n→f i=x)→cnt f n=if x then n else 0
 | 0,_=>by cases x <;> rfl
 | n+1,h=>by
  rw [show cnt f (n+1)=cnt f n+cnt (fun k=>f (n+k)) 1 from cnt_add f n 1,cnt_all f x n fun i hi=>h i (by omega)]
  have h1:f n=x:=h n (by omega)
  cases x <;> simp [cnt,h1]
theorem cnt_put {f g:Nat→Bool} {a n k:Nat} (hf : ∀ i,a≤i→i < a+n→f i=false) (hg : ∀ i,i < a+n+k→g i=if a≤i∧i < a+n then true else f i) :
  cnt g (a+n+k)=cnt f (a+n+k)+n:=by
 rw [cnt_add,cnt_add,cnt_add f,cnt_add f]
 rw [cnt_congr (f:=g) (g:=f) (n:=a) fun i hi=>by rw [hg i (by omega),if_neg (by omega)]]
 rw [cnt_all (fun i=>g (a+i)) true n fun i hi=>by rw [hg (a+i) (by omega),if_pos (by omega)]]
 rw [cnt_all (fun i=>f (a+i)) false n fun i hi=>hf (a+i) (by omega) (by omega)]
 rw [cnt_congr (f:=fun i=>g (a+n+i)) (g:=fun i=>f (a+n+i)) (n:=k) fun i hi=>by rw [hg (a+n+i) (by omega),if_neg (by omega)]]
 simp
 omega
theorem mapped_same {r:Int} {fs:List Blk} {m m':List Bool} (h:Mapped r fs m) (k:Mapped r fs m'):countL m=countL m':=by
 have hl:m.length=m'.length:=by have:=h.1;have:=k.1;omega
 unfold countL
 rw [← hl]
 refine cnt_congr fun i hi => ?_
 rw [Bool.eq_iff_iff,h.2 i hi,k.2 i (by omega)]
theorem mapped_count {r:Int} : ∀ (n:Nat) (fs:List Blk),fs.length=n→Right r fs → ∃ m,Mapped r fs m∧(countL m:Int)=sumL fs
 | 0,fs,hn,h=>by
  obtain rfl:fs = []:=List.eq_nil_of_length_eq_zero hn
  have hmp:=mapped_nil r
  refine ⟨_,hmp,?_⟩
  unfold countL
  rw [cnt_all _ false _ fun i hi=>by
   cases e:isOn (List.replicate (sz r).toNat false) i with
   | false=>rfl
   | true=>obtain ⟨c,hc,_⟩:=(hmp.2 i hi).1 e;cases hc]
  simp [sumL]
 | n+1,fs,hn,h=>by
  obtain ⟨fs',b,rfl⟩ : ∃ f b,fs=f ++ [b]:=⟨fs.dropLast,fs.getLast (by intro e;rw [e] at hn;simp at hn),(List.dropLast_concat_getLast _).symm⟩
  have hn':fs'.length=n:=by simp at hn;exact hn
  have h':Right r fs':=by have:=right_prefix h fs'.length;simpa using this
  obtain ⟨m,hm,hc⟩:=mapped_count n fs' hn' h'
  have hcm:=(right_snoc h').1 h
  obtain ⟨p1,_,p3⟩:=hm.put hcm.1
  refine ⟨_,p3,?_⟩
  obtain ⟨k0,k1,k2,k3,k4⟩:=hcm.1
  have hp:=sz_pos b.2
  have hml:=hm.1
  rw [sumL_snoc,p1]
  unfold countL
  rw [putL_length]
  have:=cnt_put (f:=isOn m) (g:=isOn (putL m b.1.toNat (sz b.2).toNat true)) (a:=b.1.toNat) (n:=(sz b.2).toNat) (k:=m.length - (b.1.toNat+(sz b.2).toNat)) (fun i hi hj=>by
   cases e:isOn m i with
   | false=>rfl
   | true =>
    obtain ⟨c,hc,hx⟩:=(hm.2 i (by omega)).1 e
    exact absurd (meets_of (show InB b (i:Int) from ⟨by omega,by omega⟩) hx) (hcm.2.1 c hc)) (fun i hi=>putL_isOn _ _ _ _ (by omega))
  rw [show b.1.toNat+(sz b.2).toNat+(m.length - (b.1.toNat+(sz b.2).toNat))=m.length by omega] at this
  unfold countL at hc
  rw [this]
  omega
theorem Mapped.count {r:Int} {fs:List Blk} {m:List Bool} (hR:Right r fs) (h:Mapped r fs m):(countL m:Int)=sumL fs:=by
 obtain ⟨m',h1,h2⟩:=mapped_count fs.length fs rfl hR
 rw [mapped_same h h1]
 exact h2
theorem Mapped.found {r:Int} {fs:List Blk} {m:List Bool} {b:Blk} (h:Mapped r fs m) (hb:May r b) (hc : ∀ x,InB b x→Cov fs x):runL m b.1 (sz b.2) true=b.1:=by
 obtain ⟨h1,h2⟩:=h
 obtain ⟨k0,k1,k2,k3,k4⟩:=hb
 have hp:=sz_pos b.2
 obtain ⟨x,o⟩:=b
 simp only at *
 obtain ⟨a,rfl⟩:=Int.eq_ofNat_of_zero_le k2
 obtain ⟨n,hn⟩:=Int.eq_ofNat_of_zero_le (Int.le_of_lt hp)
 rw [hn,runL_at (by omega),runAt_iff]
 exact ⟨by omega,fun k hk=>(h2 (a+k) (by omega)).2 (hc _ ⟨by simp only;omega,by simp only [hn];omega⟩)⟩
theorem Mapped.off {r:Int} {fs ms:List Blk} {m:List Bool} {b:Blk} (h:Mapped r fs m) (hb:May r b) (hc : ∀ x,Cov ms x ↔ Cov fs x ∧ ¬ InB b x):putE m b.1 (sz b.2)=0∧Mapped r ms (putV m b.1 (sz b.2) false):=by
 obtain ⟨h1,h2⟩:=h
 obtain ⟨k0,k1,k2,k3,k4⟩:=hb
 have hp:=sz_pos b.2
 have hm:mayPut m b.1 (sz b.2)=true:=decide_eq_true ⟨k2,by omega,by omega⟩
 have e1:putV m b.1 (sz b.2) false=putL m b.1.toNat (sz b.2).toNat false:=by unfold putV;rw [hm,if_pos rfl]
 refine ⟨by unfold putE;rw [hm];rfl,?_⟩
 rw [e1]
 refine ⟨by rw [putL_length];exact h1,fun x hx => ?_⟩
 rw [putL_length] at hx
 rw [putL_isOn m _ _ _ hx,hc]
 by_cases hi:b.1.toNat≤x∧x < b.1.toNat+(sz b.2).toNat
 ·rw [if_pos hi]
  exact ⟨(fun e=>by cases e),fun e=>absurd (show InB b (x:Int) from ⟨by omega,by omega⟩) e.2⟩
 ·rw [if_neg hi,h2 x hx]
  exact ⟨fun h=>⟨h,fun h=>hi ⟨by have:=h.1;omega,by have:=h.2;omega⟩⟩,fun h=>h.1⟩
end Go.Proofs.YtcodpnbemdflcaaGreatDoor

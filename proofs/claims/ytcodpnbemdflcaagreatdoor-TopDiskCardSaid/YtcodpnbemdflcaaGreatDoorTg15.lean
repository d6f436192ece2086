/-
  Heaps of objects, and what operations make of them: plain mathematics, no program.
  What an operation makes of a heap, and what follows of it: plain mathematics, no program.
  Heaps of objects in memory: what reads as one. The document's helpers over rows of integers, and over a heap's objects: contracts.
  The document's reading of a heap: contracts.
-/
import Derived.Test.YtcodpnbemdflcaaGreatDoorTg14
namespace Go.Proofs.YtcodpnbemdflcaaGreatDoor
open Go.RowKit
theorem took_exists {r t:Int} {l:List Blk} (hR:Right r l) (ht:0≤t) (h:roomB l t=true) : ∃ b m,Took l t b m:=by
 have hmin : ∀ l:List Blk,roomB l t=true → ∃ B ∈ l,t≤B.2 ∧ ∀ c ∈ l,t≤c.2→Lq B c:=by
  intro l
  induction l with
  | nil=>intro h;cases h
  | cons a s ih =>
   intro h
   by_cases hs:roomB s t=true
   ·obtain ⟨B,h1,h2,h3⟩:=ih hs
    by_cases ha:t≤a.2
    ·by_cases hq:Lq a B
     ·exact ⟨a,List.mem_cons_self ..,ha,fun c hc hct=>by
       rcases List.mem_cons.1 hc with e | e
       ·subst e;exact Lq.refl _
       ·exact hq.trans (h3 c e hct)⟩
     ·refine ⟨B,List.mem_cons_of_mem _ h1,h2,fun c hc hct => ?_⟩
      rcases List.mem_cons.1 hc with e | e
      ·subst e;unfold Lq at *;omega
      ·exact h3 c e hct
    ·refine ⟨B,List.mem_cons_of_mem _ h1,h2,fun c hc hct => ?_⟩
     rcases List.mem_cons.1 hc with e | e
     ·subst e;exact absurd hct ha
     ·exact h3 c e hct
   ·have hn : ∀ c ∈ s, ¬ t≤c.2:=fun c hc hct=>hs (by unfold roomB;rw [List.any_eq_true];exact ⟨c,hc,decide_eq_true hct⟩)
    have ha:t≤a.2:=by
     unfold roomB at h
     rw [List.any_eq_true] at h
     obtain ⟨c,hc,hd⟩:=h
     rw [decide_eq_true_iff] at hd
     rcases List.mem_cons.1 hc with e | e
     ·subst e;exact hd
     ·exact absurd hd (hn c e)
    exact ⟨a,List.mem_cons_self ..,ha,fun c hc hct=>by
     rcases List.mem_cons.1 hc with e | e
     ·subst e;exact Lq.refl _
     ·exact absurd hct (hn c e)⟩
 obtain ⟨B,h1,h2,h3⟩:=hmin l h
 obtain ⟨m,⟨k1,k2⟩,_⟩:=halves_sum hR h1 ht (B.2 - t).toNat (by omega)
 rw [show B.2 - ((B.2 - t).toNat:Int)=t by omega] at k2
 exact ⟨(B.1,t),m,B,h1,h2,h3,rfl,k1,k2⟩
theorem gave_from {r:Int} {l:List Blk} {b0:Blk} : ∀ (n:Nat) (out:List Blk) (b:Blk),(r - b.2).toNat=n→GvInv r l b0 out b → ∃ m,Gave r l b0 m
 | 0,out,b,hn,h=>⟨_,h.done fun hb=>by omega⟩
 | n+1,out,b,hn,h=>by
  by_cases hb:b.2 < r∧twin b ∈ out
  ·exact gave_from n _ _ (by rw [merged_ord];omega) (h.step hb.1 hb.2)
  ·exact ⟨_,h.done fun h1 h2=>hb ⟨h1,h2⟩⟩
theorem gave_exists {r:Int} {l:List Blk} {b:Blk} (hR:Right r l) (hf:Fits r l b) : ∃ m,Gave r l b m:=gave_from _ _ _ rfl (GvInv.start hR hf)
open Classical in
noncomputable def takeF (l:List Blk) (t:Int):Blk × List Blk:=if h : ∃ p:Blk × List Blk,Took l t p.1 p.2 then h.choose else ((0,0), [])
open Classical in
noncomputable def giveF (r:Int) (l:List Blk) (b:Blk):List Blk:=if h : ∃ m,Gave r l b m then h.choose else []
theorem takeF_eq {l m:List Blk} {t:Int} {b:Blk} (h:Took l t b m):takeF l t=(b,m):=by
 have hx : ∃ p:Blk × List Blk,Took l t p.1 p.2:=⟨(b,m),h⟩
 unfold takeF
 rw [dif_pos hx]
 obtain ⟨e1,e2⟩:=hx.choose_spec.eq h
 exact Prod.ext e1 e2
theorem giveF_eq {r:Int} {l m:List Blk} {b:Blk} (h:Gave r l b m):giveF r l b=m:=by
 have hx : ∃ m,Gave r l b m:=⟨m,h⟩
 unfold giveF
 rw [dif_pos hx]
 exact hx.choose_spec.eq h
theorem meets_word {a b:Blk} (h:Meets a b) : ∃ y,InB a y∧InB b y:=by
 have hpa:=sz_pos a.2
 have hpb:=sz_pos b.2
 exact ⟨max a.1 b.1,by unfold InB;have:=h.1;have:=h.2;omega,by unfold InB;have:=h.1;have:=h.2;omega⟩
theorem Gave.sum {r:Int} {l m:List Blk} {b:Blk} (hR:Right r l) (hf:Fits r l b) (h:Gave r l b m):sumL m=sumL l+sz b.2:=by
 obtain ⟨ml,hml,hcl⟩:=mapped_count l.length l rfl hR
 obtain ⟨p1,_,p3⟩:=hml.put hf.1
 have hm:Mapped r m (putV ml b.1 (sz b.2) true):=⟨p3.1,fun x hx=>by rw [p3.2 x hx,h.2,cov_snoc]⟩
 have hc:=hm.count h.1
 obtain ⟨k0,k1,k2,k3,k4⟩:=hf.1
 have hp:=sz_pos b.2
 have hl:=hml.1
 have hn : ∀ i,b.1.toNat≤i→i < b.1.toNat+(sz b.2).toNat→isOn ml i=false:=fun i hi hj=>by
  cases e:isOn ml i with
  | false=>rfl
  | true =>
   obtain ⟨c,hcm,hx⟩:=(hml.2 i (by omega)).1 e
   exact absurd (meets_of (show InB b (i:Int) from ⟨by omega,by omega⟩) hx) (hf.2 c hcm)
 have:=cnt_put (f:=isOn ml) (g:=isOn (putL ml b.1.toNat (sz b.2).toNat true)) (a:=b.1.toNat) (n:=(sz b.2).toNat) (k:=ml.length - (b.1.toNat+(sz b.2).toNat)) hn (fun i hi=>putL_isOn _ _ _ _ (by omega))
 rw [show b.1.toNat+(sz b.2).toNat+(ml.length - (b.1.toNat+(sz b.2).toNat))=ml.length by omega] at this
 rw [p1] at hc
 unfold countL at hc hcl
 rw [putL_length,this] at hc
 omega
structure Ob where
 hd:Int
 bl:Blk
 ws:List Int
 ls:List Int
theorem Ob.ext' {a b:Ob} (h1:a.hd=b.hd) (h2:a.bl=b.bl) (h3:a.ws=b.ws) (h4:a.ls=b.ls):a=b:=by
 cases a;cases b;simp only at *;subst h1 h2 h3 h4;rfl
instance : DecidableEq Ob:=fun a b =>
 if h:a.hd=b.hd∧a.bl=b.bl∧a.ws=b.ws∧a.ls=b.ls then isTrue (Ob.ext' h.1 h.2.1 h.2.2.1 h.2.2.2) else isFalse fun e=>h (by subst e;exact ⟨rfl,rfl,rfl,rfl⟩)
structure Hp where
 od:Int
 obs:List Ob
 nx:Int
 tp:List Int
 fr:List Blk
theorem Hp.ext' {a b:Hp} (h1:a.od=b.od) (h2:a.obs=b.obs) (h3:a.nx=b.nx) (h4:a.tp=b.tp) (h5:a.fr=b.fr):a=b:=by
 cases a;cases b;simp only at *;subst h1 h2 h3 h4 h5;rfl
instance : DecidableEq Hp:=fun a b =>
 if h:a.od=b.od∧a.obs=b.obs∧a.nx=b.nx∧a.tp=b.tp∧a.fr=b.fr then isTrue (Hp.ext' h.1 h.2.1 h.2.2.1 h.2.2.2.1 h.2.2.2.2) else isFalse fun e=>h (by subst e;exact ⟨rfl,rfl,rfl,rfl,rfl⟩)
structure Opn where
 k:Int
 h:Int
 i:Int
 n:Int
 kk:Int
 v:Int
 t:Int
def needI (w l:Int):Int :=
 if 0≤w∧w≤32∧0≤l∧l≤16 then
  (if 1+w+l≤1 then 0 else if 1+w+l≤2 then 1 else if 1+w+l≤4 then 2 else if 1+w+l≤8 then 3 else if 1+w+l≤16 then 4 else if 1+w+l≤32 then 5 else 6)
 else -1
theorem needI_bd (w l:Int) : -1≤needI w l∧needI w l≤6:=by
 unfold needI
 split
 ·repeat (split; · omega)
  omega
 ·omega
theorem needI_in {w l:Int} (h:0≤needI w l):0≤w∧w≤32∧0≤l∧l≤16:=by
 unfold needI at h
 split at h
 ·assumption
 ·omega
theorem needI_fits {w l:Int} (h:0≤needI w l):1+w+l≤sz (needI w l):=by
 have h1:=needI_in h
 unfold needI
 rw [if_pos h1]
 repeat (split; · simp only [sz0,sz1,sz2,sz3,sz4,sz5];omega)
 rw [sz6];omega
def Leads (h:Hp) (t:Int):Prop:=t=0 ∨ ∃ x ∈ h.obs,x.hd=t
instance (h:Hp) (t:Int):Decidable (Leads h t):=by unfold Leads;infer_instance
def blks (h:Hp):List Blk:=h.fr++h.obs.map Ob.bl
def ObOk (h:Hp) (x:Ob):Prop:=1≤x.hd∧x.hd < h.nx∧needI x.ws.length x.ls.length=x.bl.2∧May h.od x.bl ∧ ∀ t ∈ x.ls,Leads h t
instance (h:Hp) (x:Ob):Decidable (ObOk h x):=by unfold ObOk;infer_instance
structure RightH (h:Hp):Prop where
 fr:Right h.od h.fr
 nx:1≤h.nx∧h.nx≤1000001
 rise:h.obs.Pairwise (fun a b=>a.hd < b.hd)
 ok : ∀ x ∈ h.obs,ObOk h x
 apart:(blks h).Pairwise (fun a b => ¬ Meets b a)
 tp : ∀ t ∈ h.tp,Leads h t
 sum:sumL (blks h)=sz h.od
instance (h:Hp):Decidable (RightH h) :=
 if k:Right h.od h.fr∧(1≤h.nx∧h.nx≤1000001)∧h.obs.Pairwise (fun a b=>a.hd < b.hd)∧(∀ x ∈ h.obs,ObOk h x)∧(blks h).Pairwise (fun a b => ¬ Meets b a)∧(∀ t ∈ h.tp,Leads h t)∧sumL (blks h)=sz h.od then
  isTrue ⟨k.1,k.2.1,k.2.2.1,k.2.2.2.1,k.2.2.2.2.1,k.2.2.2.2.2.1,k.2.2.2.2.2.2⟩
 else isFalse fun e=>k ⟨e.fr,e.nx,e.rise,e.ok,e.apart,e.tp,e.sum⟩
theorem sumL_ge : ∀ (l:List Blk),(l.length:Int)≤sumL l
 | []=>by simp [sumL]
 | b :: t=>by
  have:=sumL_ge t
  have:=sz_pos b.2
  rw [sumL_cons,List.length_cons]
  omega
theorem RightH.len {h:Hp} (k:RightH h):h.obs.length≤256:=by
 have h1:=sumL_ge (blks h)
 rw [k.sum] at h1
 have h2:=sz_le256 (o:=h.od) (by have:=k.fr.1.1;omega) k.fr.1.2
 unfold blks at h1
 rw [List.length_append,List.length_map] at h1
 omega
theorem RightH.cross {h:Hp} (k:RightH h) {a:Blk} {x:Ob} (ha:a ∈ h.fr) (hx:x ∈ h.obs) : ¬ Meets x.bl a:=by
 have:=k.apart
 unfold blks at this
 rw [List.pairwise_append] at this
 exact this.2.2 a ha _ (List.mem_map_of_mem hx)
theorem RightH.fits {h:Hp} (k:RightH h) {x:Ob} (hx:x ∈ h.obs):Fits h.od h.fr x.bl:=⟨(k.ok x hx).2.2.2.1,fun _ ha=>k.cross ha hx⟩
theorem apart_append {l m:List Blk} : (l++m).Pairwise (fun a b => ¬ Meets b a) ↔ l.Pairwise (fun a b => ¬ Meets b a)∧m.Pairwise (fun a b => ¬ Meets b a) ∧ ∀ a ∈ l, ∀ c ∈ m, ¬ Meets c a:=by
 rw [List.pairwise_append]
theorem RightH.alloc {h:Hp} (k:RightH h) {w l:Int} {b:Blk} {m:List Blk} (hn:0≤needI w l) (hx:h.nx≤1000000) (ht:Took h.fr (needI w l) b m) :
  RightH { h with obs:=h.obs ++ [⟨h.nx,b,List.replicate w.toNat 0,List.replicate l.toNat 0⟩],nx:=h.nx+1,fr:=m } := by
 have hin:=needI_in hn
 obtain ⟨t1,t2,t3⟩:=ht.may k.fr hn
 obtain ⟨r1,r2⟩:=ht.right k.fr hn
 have hfit:=ht.fits k.fr hn
 have hmono : ∀ t,Leads h t→Leads { h with obs:=h.obs ++ [⟨h.nx,b,List.replicate w.toNat 0,List.replicate l.toNat 0⟩],nx:=h.nx+1,fr:=m } t:=fun t q=>q.elim .inl fun ⟨x,hx,e⟩ => .inr ⟨x,List.mem_append_left _ hx,e⟩
 refine ⟨r1,⟨by have:=k.nx;simp only;omega,by simp only;omega⟩,?_,?_,?_,fun t q=>hmono t (k.tp t q),?_⟩
 ·simp only
  rw [List.pairwise_append]
  exact ⟨k.rise,List.pairwise_singleton _ _,fun a ha c hc=>by rw [List.mem_singleton.1 hc];exact (k.ok a ha).2.1⟩
 ·intro x hx
  rcases List.mem_append.1 hx with e | e
  ·obtain ⟨o1,o2,o3,o4,o5⟩:=k.ok x e
   exact ⟨o1,by simp only;omega,o3,o4,fun t q=>hmono t (o5 t q)⟩
  ·rw [List.mem_singleton.1 e]
   refine ⟨k.nx.1,by simp only;omega,?_,t1,fun t q => .inl (List.eq_of_mem_replicate q)⟩
   simp only [List.length_replicate]
   rw [Int.toNat_of_nonneg hin.1,Int.toNat_of_nonneg hin.2.2.1,t2]
 ·have hk:=k.apart
  unfold blks at hk ⊢
  rw [apart_append] at hk
  simp only [List.map_append,List.map_cons,List.map_nil]
  rw [apart_append,apart_append]
  have hobs : ∀ c ∈ h.obs.map Ob.bl, ∀ y,InB c y → ¬ Cov h.fr y:=fun c hc y hy ⟨a,ha,hay⟩=>hk.2.2 a ha c hc (meets_of hy hay)
  refine ⟨r1.2.2.imp fun q=>q.2.1,⟨hk.2.1,List.pairwise_singleton _ _,fun a ha c hc hmt => ?_⟩,fun a ha c hc hmt => ?_⟩
  ·rw [List.mem_singleton.1 hc] at hmt
   obtain ⟨y,y1,y2⟩:=meets_word hmt
   exact hobs a ha y y2 (t3 y y1)
  ·rcases List.mem_append.1 hc with e | e
   ·obtain ⟨y,y1,y2⟩:=meets_word hmt
    exact hobs c e y y1 ((r2 y).1 ⟨a,ha,y2⟩).1
   ·rw [List.mem_singleton.1 e] at hmt
    exact hfit.2 a ha hmt
 ·have hs:=k.sum
  unfold blks at hs ⊢
  simp only [List.map_append,List.map_cons,List.map_nil]
  rw [sumL_append] at hs ⊢
  rw [sumL_append]
  have:=ht.sum k.fr hn
  rw [show sumL [b]=sz b.2 by simp [sumL],t2]
  omega
def un (g t:Int):Int:=if t=g then 0 else t
def unob (g:Int) (x:Ob):Ob := { x with ls:=x.ls.map (un g) }
theorem RightH.free {h:Hp} (k:RightH h) {p:Nat} {x:Ob} {m:List Blk} (hp:h.obs[p]? = some x) (hg:Gave h.od h.fr x.bl m) :
  RightH { h with obs:=(h.obs.eraseIdx p).map (unob x.hd),tp:=h.tp.map (un x.hd),fr:=m } := by
 have hxm:=List.mem_of_getElem? hp
 have hok:=k.ok x hxm
 have hsub:(h.obs.eraseIdx p).Sublist h.obs:=List.eraseIdx_sublist ..
 have hpl:p < h.obs.length:=(List.getElem?_eq_some_iff.1 hp).1
 have hperm:(x :: h.obs.eraseIdx p).Perm h.obs:=by
  have h1:h.obs=h.obs.take p++x :: h.obs.drop (p+1):=by
   have:h.obs[p]=x:=(List.getElem?_eq_some_iff.1 hp).2
   rw [← this,List.getElem_cons_drop,List.take_append_drop]
  rw [List.eraseIdx_eq_take_drop_succ]
  conv=>rhs;rw [h1]
  exact List.perm_middle.symm
 have hne : ∀ y ∈ h.obs.eraseIdx p,y.hd≠x.hd:=fun y hy e=>by
  have hnd:(x :: h.obs.eraseIdx p).Pairwise (fun a b=>a.hd≠b.hd):=hperm.symm.pairwise (k.rise.imp fun q=>by omega) (fun q e=>q e.symm)
  rw [List.pairwise_cons] at hnd
  exact hnd.1 y hy e.symm
 have hleads : ∀ t,Leads h t→Leads { h with obs:=(h.obs.eraseIdx p).map (unob x.hd),tp:=h.tp.map (un x.hd),fr:=m } (un x.hd t):=by
  intro t q
  unfold un
  by_cases e:t=x.hd
  ·rw [if_pos e];exact .inl rfl
  ·rw [if_neg e]
   rcases q with q | ⟨y,hy,hyt⟩
   ·exact .inl q
   ·rcases List.mem_cons.1 (hperm.mem_iff.2 hy) with f | f
    ·rw [f] at hyt;exact absurd hyt.symm e
    ·exact .inr ⟨unob x.hd y,List.mem_map_of_mem f,hyt⟩
 have hbl:((h.obs.eraseIdx p).map (unob x.hd)).map Ob.bl=(h.obs.eraseIdx p).map Ob.bl:=by rw [List.map_map];rfl
 have hpb:(x.bl :: (h.obs.eraseIdx p).map Ob.bl).Perm (h.obs.map Ob.bl):=hperm.map Ob.bl
 refine ⟨hg.1,k.nx,?_,?_,?_,?_,?_⟩
 ·simp only
  rw [List.pairwise_map]
  exact k.rise.sublist hsub
 ·intro y hy
  obtain ⟨z,hz,rfl⟩:=List.mem_map.1 hy
  obtain ⟨o1,o2,o3,o4,o5⟩:=k.ok z (hsub.mem hz)
  refine ⟨o1,o2,?_,o4,fun t ht => ?_⟩
  ·unfold unob;simp only [List.length_map];exact o3
  ·obtain ⟨s,hs,rfl⟩:=List.mem_map.1 ht
   exact hleads s (o5 s hs)
 ·have hk:=k.apart
  unfold blks at hk ⊢
  simp only
  rw [hbl]
  rw [apart_append] at hk ⊢
  have hob:(x.bl :: (h.obs.eraseIdx p).map Ob.bl).Pairwise (fun a b => ¬ Meets b a):=hpb.symm.pairwise hk.2.1 (fun q=>meets_symm q)
  rw [List.pairwise_cons] at hob
  refine ⟨hg.1.2.2.imp fun q=>q.2.1,hob.2,fun a ha c hc hmt => ?_⟩
  obtain ⟨y,y1,y2⟩:=meets_word hmt
  rcases (hg.2 y).1 ⟨a,ha,y2⟩ with ⟨d,hd,hdy⟩ | e
  ·exact hk.2.2 d hd c (hpb.mem_iff.1 (List.mem_cons_of_mem _ hc)) (meets_of y1 hdy)
  ·exact hob.1 c hc (meets_of y1 e)
 ·intro t ht
  obtain ⟨s,hs,rfl⟩:=List.mem_map.1 ht
  exact hleads s (k.tp s hs)
 ·have hs:=k.sum
  unfold blks at hs ⊢
  simp only
  rw [hbl,sumL_append]
  rw [sumL_append, ← sumL_perm hpb,sumL_cons] at hs
  have:=hg.sum k.fr (k.fits hxm)
  omega
theorem RightH.write {h:Hp} (k:RightH h) {p:Nat} {x:Ob} (hp:h.obs[p]? = some x) {ws ls:List Int} (hw:ws.length=x.ws.length) (hl:ls.length=x.ls.length) (hll : ∀ t ∈ ls,Leads h t) :
  RightH { h with obs:=h.obs.set p { x with ws:=ws,ls:=ls } } := by
 have hxm:=List.mem_of_getElem? hp
 have hpl:p < h.obs.length:=(List.getElem?_eq_some_iff.1 hp).1
 have hpe:h.obs[p]=x:=(List.getElem?_eq_some_iff.1 hp).2
 have hhd:(h.obs.set p { x with ws:=ws,ls:=ls }).map Ob.hd=h.obs.map Ob.hd:=by
  rw [List.map_set]
  simp only
  rw [← hpe, ← List.getElem_map Ob.hd (h:=by simpa using hpl),List.set_getElem_self]
 have hbl:(h.obs.set p { x with ws:=ws,ls:=ls }).map Ob.bl=h.obs.map Ob.bl:=by
  rw [List.map_set]
  simp only
  rw [← hpe, ← List.getElem_map Ob.bl (h:=by simpa using hpl),List.set_getElem_self]
 have hleads : ∀ t,Leads h t→Leads { h with obs:=h.obs.set p { x with ws:=ws,ls:=ls } } t:=by
  rintro t (q | ⟨y,hy,e⟩)
  ·exact .inl q
  ·have:t ∈ (h.obs.set p { x with ws:=ws,ls:=ls }).map Ob.hd:=by rw [hhd, ← e];exact List.mem_map_of_mem hy
   obtain ⟨z,hz,hzt⟩:=List.mem_map.1 this
   exact .inr ⟨z,hz,hzt⟩
 refine ⟨k.fr,k.nx,?_,?_,?_,fun t ht=>hleads t (k.tp t ht),?_⟩
 ·simp only
  have:((h.obs.set p { x with ws:=ws,ls:=ls }).map Ob.hd).Pairwise (· < ·):=by rw [hhd,List.pairwise_map];exact k.rise
  rw [List.pairwise_map] at this
  exact this
 ·intro y hy
  rcases List.mem_or_eq_of_mem_set hy with e | e
  ·obtain ⟨o1,o2,o3,o4,o5⟩:=k.ok y e
   exact ⟨o1,o2,o3,o4,fun t q=>hleads t (o5 t q)⟩
  ·subst e
   obtain ⟨o1,o2,o3,o4,o5⟩:=k.ok x hxm
   exact ⟨o1,o2,by simp only;rw [hw,hl];exact o3,o4,fun t q=>hleads t (hll t q)⟩
 ·have:=k.apart
  unfold blks at this ⊢
  simp only
  rw [hbl]
  exact this
 ·have:=k.sum
  unfold blks at this ⊢
  simp only
  rw [hbl]
  exact this
theorem RightH.tops {h:Hp} (k:RightH h) {tp:List Int} (ht : ∀ t ∈ tp,Leads h t):RightH { h with tp:=tp } := ⟨k.fr,k.nx,k.rise,k.ok,k.apart,ht,k.sum⟩
end Go.Proofs.YtcodpnbemdflcaaGreatDoor
namespace Go.Proofs.YtcodpnbemdflcaaGreatDoor
open Go.RowKit
def findO:List Ob→Int→Option (Nat × Ob)
 | [],_=>none
 | x :: t,g=>if x.hd=g then some (0,x) else (findO t g).map fun q=>(q.1+1,q.2)
theorem findO_none : ∀ {l:List Ob} {g:Int},findO l g=none ↔ ∀ x ∈ l,x.hd≠g
 | [],g=>by simp [findO]
 | x :: t,g=>by
  unfold findO
  split
  ·rename_i h
   simp [h]
  ·rename_i h
   rw [Option.map_eq_none_iff,findO_none]
   simp [h]
theorem findO_some : ∀ {l:List Ob} {g:Int} {p:Nat} {x:Ob},findO l g=some (p,x) ↔ l[p]? = some x∧x.hd=g ∧ ∀ j y,j < p→l[j]? = some y→y.hd≠g
 | [],g,p,x=>by simp [findO]
 | z :: t,g,p,x=>by
  unfold findO
  split
  ·rename_i h
   constructor
   ·intro e
    simp only [Option.some.injEq,Prod.mk.injEq] at e
    obtain ⟨rfl,rfl⟩:=e
    exact ⟨rfl,h,fun j y hj=>absurd hj (Nat.not_lt_zero _)⟩
   ·rintro ⟨e1,e2,e3⟩
    cases p with
    | zero=>simp at e1;rw [e1]
    | succ p=>exact absurd h (e3 0 z (Nat.succ_pos _) rfl)
  ·rename_i h
   constructor
   ·intro e
    rw [Option.map_eq_some_iff] at e
    obtain ⟨⟨q,y⟩,e1,e2⟩:=e
    simp only [Prod.mk.injEq] at e2
    obtain ⟨rfl,rfl⟩:=e2
    obtain ⟨f1,f2,f3⟩:=findO_some.1 e1
    refine ⟨by simpa using f1,f2,fun j y' hj hy => ?_⟩
    cases j with
    | zero=>simp at hy;rw [← hy];exact h
    | succ j=>exact f3 j y' (by omega) (by simpa using hy)
   ·rintro ⟨e1,e2,e3⟩
    cases p with
    | zero=>simp at e1;rw [e1] at h;exact absurd e2 h
    | succ p =>
     rw [Option.map_eq_some_iff]
     exact ⟨(p,x),findO_some.2 ⟨by simpa using e1,e2,fun j y hj hy=>e3 (j+1) y (by omega) (by simpa using hy)⟩,rfl⟩
theorem findO_get {l:List Ob} {g:Int} {p:Nat} {x:Ob} (h:findO l g=some (p,x)):l[p]? = some x∧x.hd=g:=⟨(findO_some.1 h).1,(findO_some.1 h).2.1⟩
theorem leads_iff {h:Hp} {t:Int} : Leads h t ↔ t=0∨findO h.obs t≠none:=by
 unfold Leads
 rw [Ne,findO_none]
 constructor
 ·rintro (e | ⟨x,hx,e⟩)
  ·exact .inl e
  ·exact .inr fun q=>q x hx e
 ·rintro (e | q)
  ·exact .inl e
  ·refine .inr ?_
   apply Classical.byContradiction
   intro k
   exact q fun x hx e=>k ⟨x,hx,e⟩
noncomputable def allocH (h:Hp) (n kk:Int):Hp × Int × Int :=
 if needI n kk < 0 then (h,53,0) else if 1000000 < h.nx then (h,2,0) else if roomB h.fr (needI n kk)=false then (h,50,0)
 else ({ h with obs:=h.obs ++ [⟨h.nx,(takeF h.fr (needI n kk)).1,List.replicate n.toNat 0,List.replicate kk.toNat 0⟩],nx:=h.nx+1,fr:=(takeF h.fr (needI n kk)).2 },0,h.nx)
noncomputable def freeH (h:Hp) (p:Nat) (x:Ob):Hp × Int × Int :=
 ({ h with obs:=(h.obs.eraseIdx p).map (unob x.hd),tp:=h.tp.map (un x.hd),fr:=giveF h.od h.fr x.bl },0,0)
def rowH (o:Opn) (x:Ob):List Int:=if o.k=4∨o.k=7 then x.ls else x.ws
noncomputable def objH (h:Hp) (o:Opn) (p:Nat) (x:Ob):Hp × Int × Int :=
 if o.k=2 then freeH h p x
 else if ¬ (0≤o.i∧o.i < ((rowH o x).length:Int)) then (h,52,0)
 else if o.k=3 then ({ h with obs:=h.obs.set p { x with ws:=x.ws.set o.i.toNat o.v } },0,0)
 else if o.k=4 then (if Leads h o.t then ({ h with obs:=h.obs.set p { x with ls:=x.ls.set o.i.toNat o.t } },0,0) else (h,51,0))
 else (h,0,(rowH o x).getD o.i.toNat 0)
def topH (h:Hp) (o:Opn):Hp × Int × Int :=
 if ¬ (0≤o.i∧o.i < 4) then (h,52,0)
 else if o.k=8 then (h,0,h.tp.getD o.i.toNat 0)
 else if Leads h o.t then ({ h with tp:=h.tp.set o.i.toNat o.t },0,0) else (h,51,0)
def isObj (k:Int):Prop:=k=2∨k=3∨k=4∨k=6∨k=7
instance (k:Int):Decidable (isObj k):=by unfold isObj;infer_instance
noncomputable def doneH (h:Hp) (o:Opn):Hp × Int × Int :=
 if o.k=1 then allocH h o.n o.kk
 else if isObj o.k then (match findO h.obs o.h with | none=>(h,51,0) | some q=>objH h o q.1 q.2)
 else if o.k=5∨o.k=8 then topH h o
 else (h,54,0)
def zeroH:Hp:=⟨0, [],0, [0,0,0,0], []⟩
noncomputable def doH (h:Hp) (o:Opn):Hp × Int × Int:=if RightH h then doneH h o else (zeroH,1,0)
theorem doH_right {h:Hp} {o:Opn} (k:RightH h):doH h o=doneH h o:=if_pos k
theorem doH_wrong {h:Hp} {o:Opn} (k : ¬ RightH h):doH h o=(zeroH,1,0):=if_neg k
theorem room_le {r t:Int} {l:List Blk} (hR:Right r l) (h:roomB l t=true):t≤r:=by
 unfold roomB at h
 rw [List.any_eq_true] at h
 obtain ⟨c,hc,hd⟩:=h
 rw [decide_eq_true_iff] at hd
 have:=(hR.may hc).2.1
 omega
theorem allocH_cases {h:Hp} (k:RightH h) (n kk:Int) :
  (needI n kk < 0∧allocH h n kk=(h,53,0))∨(0≤needI n kk∧1000000 < h.nx∧allocH h n kk=(h,2,0))∨(0≤needI n kk∧h.nx≤1000000∧roomB h.fr (needI n kk)=false∧allocH h n kk=(h,50,0)) ∨
  (0≤needI n kk∧h.nx≤1000000∧roomB h.fr (needI n kk)=true ∧ ∃ b m,Took h.fr (needI n kk) b m∧allocH h n kk=({ h with obs:=h.obs ++ [⟨h.nx,b,List.replicate n.toNat 0,List.replicate kk.toNat 0⟩],nx:=h.nx+1,fr:=m },0,h.nx)):=by
 unfold allocH
 by_cases h1:needI n kk < 0
 ·exact .inl ⟨h1,if_pos h1⟩
 ·rw [if_neg h1]
  by_cases h2:1000000 < h.nx
  ·exact .inr (.inl ⟨by omega,h2,if_pos h2⟩)
  ·rw [if_neg h2]
   by_cases h3:roomB h.fr (needI n kk)=false
   ·exact .inr (.inr (.inl ⟨by omega,by omega,h3,if_pos h3⟩))
   ·rw [if_neg h3]
    have h3:roomB h.fr (needI n kk)=true:=by simpa using h3
    obtain ⟨b,m,ht⟩:=took_exists k.fr (by omega) h3
    rw [takeF_eq ht]
    exact .inr (.inr (.inr ⟨by omega,by omega,h3,b,m,ht,rfl⟩))
theorem freeH_is {h:Hp} (k:RightH h) {p:Nat} {x:Ob} (hp:h.obs[p]? = some x) : ∃ m,Gave h.od h.fr x.bl m∧freeH h p x=({ h with obs:=(h.obs.eraseIdx p).map (unob x.hd),tp:=h.tp.map (un x.hd),fr:=m },0,0):=by
 obtain ⟨m,hm⟩:=gave_exists k.fr (k.fits (List.mem_of_getElem? hp))
 exact ⟨m,hm,by unfold freeH;rw [giveF_eq hm]⟩
theorem doneH_right {h:Hp} (k:RightH h) (o:Opn):RightH (doneH h o).1∧(doneH h o).1.tp.length=h.tp.length:=by
 unfold doneH
 split
 ·rcases allocH_cases k o.n o.kk with ⟨_,e⟩ | ⟨_,_,e⟩ | ⟨_,_,_,e⟩ | ⟨h1,h2,h3,b,m,ht,e⟩ <;> rw [e]
  ·exact ⟨k,rfl⟩
  ·exact ⟨k,rfl⟩
  ·exact ⟨k,rfl⟩
  ·exact ⟨k.alloc h1 h2 ht,rfl⟩
 ·split
  ·split
   ·exact ⟨k,rfl⟩
   ·rename_i q hq
    obtain ⟨p,x⟩:=q
    obtain ⟨hp,hx⟩:=findO_get hq
    simp only
    unfold objH
    split
    ·obtain ⟨m,hm,e⟩:=freeH_is k hp
     rw [e]
     exact ⟨k.free hp hm,by simp⟩
    ·split
     ·exact ⟨k,rfl⟩
     ·have hok:=k.ok x (List.mem_of_getElem? hp)
      split
      ·exact ⟨k.write hp (by simp) rfl hok.2.2.2.2,rfl⟩
      ·split
       ·split
        ·rename_i hl
         refine ⟨k.write hp rfl (by simp) fun t ht => ?_,rfl⟩
         rcases List.mem_or_eq_of_mem_set ht with e | e
         ·exact hok.2.2.2.2 t e
         ·rw [e];exact hl
        ·exact ⟨k,rfl⟩
       ·exact ⟨k,rfl⟩
  ·split
   ·unfold topH
    split
    ·exact ⟨k,rfl⟩
    ·split
     ·exact ⟨k,rfl⟩
     ·split
      ·rename_i hl
       refine ⟨k.tops fun t ht => ?_,by simp⟩
       rcases List.mem_or_eq_of_mem_set ht with e | e
       ·exact k.tp t e
       ·rw [e];exact hl
      ·exact ⟨k,rfl⟩
   ·exact ⟨k,rfl⟩
theorem doneH_keeps {h:Hp} (k:RightH h) (o:Opn) :
  ((doneH h o).1=h∧((doneH h o).2.1≠0→(doneH h o).2.2=0)∧((doneH h o).2.1=0→o.k=6∨o.k=7∨o.k=8)) ∨
  ((doneH h o).2.1=0∧o.k=1∧(doneH h o).2.2=h.nx∧(doneH h o).1.nx=h.nx+1) ∨
  ((doneH h o).2.1=0∧(o.k=2∨o.k=3∨o.k=4∨o.k=5)∧(doneH h o).2.2=0∧(doneH h o).1.nx=h.nx):=by
 unfold doneH
 split
 ·rename_i hk
  rcases allocH_cases k o.n o.kk with ⟨_,e⟩ | ⟨_,_,e⟩ | ⟨_,_,_,e⟩ | ⟨h1,h2,h3,b,m,ht,e⟩ <;> rw [e]
  ·exact .inl ⟨rfl,fun _=>rfl,fun q=>by simp at q⟩
  ·exact .inl ⟨rfl,fun _=>rfl,fun q=>by simp at q⟩
  ·exact .inl ⟨rfl,fun _=>rfl,fun q=>by simp at q⟩
  ·exact .inr (.inl ⟨rfl,hk,rfl,rfl⟩)
 ·split
  ·rename_i _ hk
   unfold isObj at hk
   split
   ·exact .inl ⟨rfl,fun _=>rfl,fun q=>by simp at q⟩
   ·rename_i q hq
    obtain ⟨p,x⟩:=q
    simp only
    unfold objH
    split
    ·rename_i h2
     exact .inr (.inr ⟨rfl, .inl h2,rfl,rfl⟩)
    ·split
     ·exact .inl ⟨rfl,fun _=>rfl,fun q=>by simp at q⟩
     ·split
      ·rename_i h3
       exact .inr (.inr ⟨rfl, .inr (.inl h3),rfl,rfl⟩)
      ·split
       ·rename_i h4
        split
        ·exact .inr (.inr ⟨rfl, .inr (.inr (.inl h4)),rfl,rfl⟩)
        ·exact .inl ⟨rfl,fun _=>rfl,fun q=>by simp at q⟩
       ·exact .inl ⟨rfl,fun q=>absurd rfl q,fun _=>by omega⟩
  ·split
   ·rename_i hk
    unfold topH
    split
    ·exact .inl ⟨rfl,fun _=>rfl,fun q=>by simp at q⟩
    ·split
     ·rename_i h8
      exact .inl ⟨rfl,fun q=>absurd rfl q,fun _ => .inr (.inr h8)⟩
     ·split
      ·exact .inr (.inr ⟨rfl,by omega,rfl,rfl⟩)
      ·exact .inl ⟨rfl,fun _=>rfl,fun q=>by simp at q⟩
   ·exact .inl ⟨rfl,fun _=>rfl,fun q=>by simp at q⟩
def readH (h:Hp) (links:Bool) (g i:Int):Int × Int :=
 match findO h.obs g with
 | none=>(51,0)
 | some q=>if 0≤i∧i < (((if links then q.2.ls else q.2.ws)).length:Int) then (0,(if links then q.2.ls else q.2.ws).getD i.toNat 0) else (52,0)
theorem doneH_obj {h:Hp} {o:Opn} (hk:isObj o.k):doneH h o=match findO h.obs o.h with | none=>(h,51,0) | some q=>objH h o q.1 q.2:=by
 unfold doneH
 rw [if_neg (by unfold isObj at hk;omega),if_pos hk]
theorem doneH_tops {h:Hp} {o:Opn} (hk:o.k=5∨o.k=8):doneH h o=topH h o:=by
 unfold doneH
 rw [if_neg (by omega),if_neg (by unfold isObj;omega),if_pos hk]
theorem doneH_alloc {h:Hp} {o:Opn} (hk:o.k=1):doneH h o=allocH h o.n o.kk:=if_pos hk
theorem objH_ask {h:Hp} {o:Opn} {p:Nat} {x:Ob} (hk:o.k=6∨o.k=7):objH h o p x=if 0≤o.i∧o.i < ((rowH o x).length:Int) then (h,0,(rowH o x).getD o.i.toNat 0) else (h,52,0):=by
 unfold objH
 rw [if_neg (by omega)]
 by_cases hi:0≤o.i∧o.i < ((rowH o x).length:Int)
 ·rw [if_neg (fun q=>q hi),if_neg (by omega),if_neg (by omega),if_pos hi]
 ·rw [if_pos hi,if_neg hi]
theorem objH_write {h:Hp} {o:Opn} {p:Nat} {x:Ob} (hk:o.k=3):objH h o p x=if 0≤o.i∧o.i < (x.ws.length:Int) then ({ h with obs:=h.obs.set p { x with ws:=x.ws.set o.i.toNat o.v } },0,0) else (h,52,0):=by
 have hr:rowH o x=x.ws:=if_neg (by omega)
 unfold objH
 rw [if_neg (by omega),hr]
 by_cases hi:0≤o.i∧o.i < (x.ws.length:Int)
 ·rw [if_neg (fun q=>q hi),if_pos hk,if_pos hi]
 ·rw [if_pos hi,if_neg hi]
theorem objH_link {h:Hp} {o:Opn} {p:Nat} {x:Ob} (hk:o.k=4):objH h o p x=if 0≤o.i∧o.i < (x.ls.length:Int) then (if Leads h o.t then ({ h with obs:=h.obs.set p { x with ls:=x.ls.set o.i.toNat o.t } },0,0) else (h,51,0)) else (h,52,0):=by
 have hr:rowH o x=x.ls:=if_pos (.inl hk)
 unfold objH
 rw [if_neg (by omega),hr]
 by_cases hi:0≤o.i∧o.i < (x.ls.length:Int)
 ·rw [if_neg (fun q=>q hi),if_neg (by omega),if_pos hk,if_pos hi]
 ·rw [if_pos hi,if_neg hi]
theorem doneH_read {h:Hp} {o:Opn} (hk:o.k=6):doneH h o=(h,readH h false o.h o.i):=by
 have hr : ∀ x,rowH o x=x.ws:=fun x=>if_neg (by omega)
 rw [doneH_obj (by unfold isObj;omega)]
 unfold readH
 cases findO h.obs o.h with
 | none=>rfl
 | some q =>
  simp only [objH_ask (.inl hk),hr]
  simp only [Bool.false_eq_true,if_false]
  split <;> rfl
theorem doneH_follow {h:Hp} {o:Opn} (hk:o.k=7):doneH h o=(h,readH h true o.h o.i):=by
 have hr : ∀ x,rowH o x=x.ls:=fun x=>if_pos (.inr hk)
 rw [doneH_obj (by unfold isObj;omega)]
 unfold readH
 cases findO h.obs o.h with
 | none=>rfl
 | some q =>
  simp only [objH_ask (.inr hk),hr]
  simp only [if_true]
  split <;> rfl
theorem getD_set_self {l:List Int} {i:Nat} {v:Int} (h:i < l.length):(l.set i v).getD i 0=v:=by
 rw [List.getD_eq_getElem?_getD,List.getElem?_set_self h];rfl
theorem getD_set_ne {l:List Int} {i j:Nat} {v:Int} (h:i≠j):(l.set i v).getD j 0=l.getD j 0:=by
 rw [List.getD_eq_getElem?_getD,List.getElem?_set_ne h, ← List.getD_eq_getElem?_getD]
def askTop (h:Hp) (i:Int):Int × Int:=if 0≤i∧i < 4 then (0,h.tp.getD i.toNat 0) else (52,0)
theorem doneH_top {h:Hp} {o:Opn} (hk:o.k=8):doneH h o=(h,askTop h o.i):=by
 rw [doneH_tops (.inr hk)]
 unfold topH askTop
 by_cases hi:0≤o.i∧o.i < 4
 ·rw [if_neg (fun q=>q hi),if_pos hk,if_pos hi]
 ·rw [if_pos hi,if_neg hi]
end Go.Proofs.YtcodpnbemdflcaaGreatDoor
namespace Go.Proofs.YtcodpnbemdflcaaGreatDoor
open Go.RowKit
def ivs (l:List Int):List Value:=l.map fun x => .int .i64 x
theorem ivs_length (l:List Int):(ivs l).length=l.length:=by simp [ivs]
theorem ivs_get {l:List Int} {j:Nat} {x:Int} (h:l[j]? = some x):(ivs l)[j]? = some (.int .i64 x):=by simp [ivs,h]
def RdI (w:World) (A:Option Addr) (n:Nat) (l:List Int):Prop:=RdV w A n (ivs l)
section
variable {w w':World} {A:Option Addr} {n:Nat} {l:List Int}
theorem RdI.nil:RdI w A 0 []:=⟨rfl,fun h=>absurd h (by omega)⟩
theorem RdI.len (h:RdI w A n l):l.length=n:=by rw [← RdV.len h,ivs_length]
theorem RdI.below (h:RdI w A n l) (hb:Below w.heap.size w w'):RdI w' A n l:=RdV.below h hb
theorem RdI.cell (h:RdI w A n l) {j:Nat} (hj:j < n) : ∃ b off x,A=some ⟨b,off,none⟩∧b < w.heap.size∧l[j]? = some x∧w.cell? ⟨b,off+j,none⟩=some (.int .i64 x):=by
 obtain ⟨b,off,v,e,hb,hv,hc⟩:=RdV.cell h hj
 have hl:j < l.length:=by have:=h.len;omega
 have hx:l[j]? = some l[j]:=List.getElem?_eq_getElem hl
 rw [ivs_get hx] at hv
 injection hv with hv
 subst hv
 exact ⟨b,off,l[j],e,hb,hx,hc⟩
end
def ObAt (w:World) (b off:Nat) (x:Ob):Prop :=
 ∃ A n c B m d,w.cell? ⟨b,off,none⟩=some (.int .i64 x.hd)∧w.cell? ⟨b,off+1,none⟩=some (.int .i64 x.bl.1)∧w.cell? ⟨b,off+2,none⟩=some (.int .i64 x.bl.2) ∧
  w.cell? ⟨b,off+3,none⟩=some (.slice A n c)∧w.cell? ⟨b,off+4,none⟩=some (.slice B m d)∧RdI w A n x.ws∧RdI w B m x.ls
theorem ObAt.below {w w':World} {b off:Nat} {x:Ob} (h:ObAt w b off x) (hb:b < w.heap.size) (k:Below w.heap.size w w'):ObAt w' b off x:=by
 obtain ⟨A,n,c,B,m,d,h0,h1,h2,h3,h4,h5,h6⟩:=h
 exact ⟨A,n,c,B,m,d,(k.cell (p:=⟨b,off,none⟩) hb).trans h0,(k.cell (p:=⟨b,off+1,none⟩) hb).trans h1,(k.cell (p:=⟨b,off+2,none⟩) hb).trans h2,(k.cell (p:=⟨b,off+3,none⟩) hb).trans h3,(k.cell (p:=⟨b,off+4,none⟩) hb).trans h4,h5.below k,h6.below k⟩
structure RdO (w:World) (A:Option Addr) (n:Nat) (l:List Ob):Prop where
 len:l.length=n
 at_:0 < n → ∃ b off,A=some ⟨b,off,none⟩∧b < w.heap.size ∧ ∀ (j:Nat) (x:Ob),l[j]? = some x→ObAt w b (off+j*5) x
section
variable {w w':World} {A:Option Addr} {n:Nat} {l:List Ob}
theorem RdO.nil:RdO w A 0 []:=⟨rfl,fun h=>absurd h (by omega)⟩
theorem RdO.below (h:RdO w A n l) (k:Below w.heap.size w w'):RdO w' A n l :=
 ⟨h.len,fun hn=>by
  obtain ⟨b,off,e,hb,hc⟩:=h.at_ hn
  exact ⟨b,off,e,Nat.lt_of_lt_of_le hb k.size,fun j x hx=>(hc j x hx).below hb k⟩⟩
theorem RdO.get (h:RdO w A n l) {j:Nat} (hj:j < n) : ∃ b off x,A=some ⟨b,off,none⟩∧b < w.heap.size∧l[j]? = some x∧ObAt w b (off+j*5) x:=by
 obtain ⟨b,off,e,hb,hc⟩:=h.at_ (by omega)
 have hl:j < l.length:=by have:=h.len;omega
 exact ⟨b,off,l[j],e,hb,List.getElem?_eq_getElem hl,hc j _ (List.getElem?_eq_getElem hl)⟩
end
structure HSl where
 A:Option Addr
 n:Nat
 c:Nat
 F:Option Addr
 m:Nat
 d:Nat
def tget (H:Hp) (i:Nat):Int:=H.tp.getD i 0
def hcs (H:Hp) (s:HSl):List Value := [.int .i64 H.od, .slice s.A s.n s.c, .int .i64 H.nx, .int .i64 (tget H 0), .int .i64 (tget H 1), .int .i64 (tget H 2), .int .i64 (tget H 3), .slice s.F s.m s.d]
def hval (H:Hp) (s:HSl):Value := .agg (hcs H s).toArray
structure RdH (w:World) (s:HSl) (H:Hp):Prop where
 obs:RdO w s.A s.n H.obs
 fr:RdS w s.F s.m H.fr
 tp:H.tp.length=4
 nx:H.nx≤9223372036854775807
theorem RdH.below {w w':World} {s:HSl} {H:Hp} (h:RdH w s H) (k:Below w.heap.size w w'):RdH w' s H:=⟨h.obs.below k,h.fr.below k,h.tp,h.nx⟩
def SmallH (H:Hp):Prop:=H.obs.length≤600∧H.fr.length≤600 ∧ ∀ x ∈ H.obs,x.ws.length≤5000∧x.ls.length≤5000
def IntsRel (w:World) (l m:List Int) (i:Value) (wr:World):Prop := ∃ k:Nat,k≤l.length∧i = .int .i64 (k:Int)∧l.take k=m.take k∧Grew w wr
theorem take_snocI {α:Type} {l:List α} {k:Nat} {x:α} (h:l[k]? = some x):l.take (k+1)=l.take k ++ [x]:=by
 rw [List.take_add_one,h]
 rfl
set_option maxHeartbeats 1000000 in
theorem refInts_any (A A2:Option Addr) (n c n2 c2:Nat) (l m:List Int) (w:World) (h:RdI w A n l) (h2:RdI w A2 n2 m) (hn:n≤10000) :
  Calls Tryz.prog 30 #[.slice A n c, .slice A2 n2 c2] w (Says w (.bool (decide (l=m)))):=by
 have hlen:=h.len
 have hlen2:=h2.len
 by_cases hnn:n=n2
 ·subst hnn
  have HR:=Lib.hid h
  have HR2:=Lib.hid h2
  have mixed:=mixedP
  clear h h2
  go_enter Tryz.func30,Tryz.ntmps30
  go_wp2
  go_loopw [5] (IntsRel w l m) (fun i _=>n - (intOf i).toNat)
  case atStart=>exact ⟨0,Nat.zero_le _,rfl,by simp,Grew.refl _⟩
  case round =>
   obtain ⟨k,hk,rfl,hsm,gr⟩:=hrel
   by_cases hlt:k < n
   ·obtain ⟨b',off,x0,rfl,hbl,hx,hc0⟩:=HR.out.cell hlt
    obtain ⟨b2,off2,y0,rfl,hbl2,hy,hd0⟩:=HR2.out.cell hlt
    have hgr:=gr.below
    have z0:=cell_grown (a:=⟨b',off+k,none⟩) (Nat.lt_of_lt_of_le hbl hgr.size) ((hgr.cell (p:=⟨b',off+k,none⟩) hbl).trans hc0)
    have v0:=cell_grown (a:=⟨b2,off2+k,none⟩) (Nat.lt_of_lt_of_le hbl2 hgr.size) ((hgr.cell (p:=⟨b2,off2+k,none⟩) hbl2).trans hd0)
    have hki:(k:Int) < (n:Int):=by omega
    have Hx:=Lib.hid hx
    have Hy:=Lib.hid hy
    clear hx hy hc0 hd0
    by_cases he:x0=y0
    ·subst he
     have Hsm:=Lib.hid (show l.take (k+1)=m.take (k+1) by rw [take_snocI Hx.out,take_snocI Hy.out,hsm])
     clear hsm
     go_wp2_with fail
     refine wp_region_quiet_grown mixed (by kernel_rfl) ?_
     repeat (go_big_quiet_step (fail))
     refine wpQuiet_nil ?_
     intro _ hw'
     obtain ⟨⟨nq,osq⟩,hw''⟩:=hw'
     subst hw''
     have G4:=(Grew.refl wr).grow nq osq
     generalize Go.Sort.grow (wr.drewN nq) osq=w4 at G4 ⊢
     clear z0 v0
     go_wp2
     go_roundw
     case rel=>exact ⟨k+1,by omega,by go_num,Hsm.out,gr.trans G4⟩
     case measure=>simp [intOf];omega
    ·have hne:(x0 != y0)=true:=by simp [he]
     have Hlm:=Lib.hid (show l≠m from fun e=>by
      have h1:=Hx.out
      rw [e,Hy.out] at h1
      injection h1 with h1
      exact he h1.symm)
     go_wp2_with fail
     refine wp_region_quiet_grown mixed (by kernel_rfl) ?_
     repeat (go_big_quiet_step (fail))
     refine wpQuiet_nil ?_
     intro _ hw'
     obtain ⟨⟨nq,osq⟩,hw''⟩:=hw'
     subst hw''
     have G4:=(Grew.refl wr).grow nq osq
     generalize Go.Sort.grow (wr.drewN nq) osq=w4 at G4 ⊢
     clear z0 v0
     go_wp2
     go_ret
     exact ⟨by rw [decide_eq_false Hlm.out];rfl,gr.trans G4⟩
   ·obtain rfl:k=n:=by omega
    rw [List.take_of_length_le (by omega),List.take_of_length_le (by omega)] at hsm
    go_wp2
    go_ret
    exact ⟨by rw [decide_eq_true hsm];rfl,gr⟩
 ·have hne:l≠m:=fun e=>hnn (by rw [← hlen, ← hlen2,e])
  have hni:decide ((n:Int)=(n2:Int))=false:=by simp;omega
  clear h h2
  go_enter Tryz.func30,Tryz.ntmps30
  go_wp2
  go_ret
  exact ⟨by rw [decide_eq_false hne];rfl,Grew.refl _⟩
end Go.Proofs.YtcodpnbemdflcaaGreatDoor
namespace Go.Proofs.YtcodpnbemdflcaaGreatDoor
open Go.RowKit
theorem needI_lt {w l o:Int} (h:0≤needI w l) (h0:0≤o) (ho:o≤needI w l):sz o < 1+w+l ↔ o < needI w l:=by
 have h1:=needI_in h
 have hb:=(needI_bd w l).2
 have hw:o=0∨o=1∨o=2∨o=3∨o=4∨o=5∨o=6:=by omega
 unfold needI at *
 rw [if_pos h1] at *
 rcases hw with e | e | e | e | e | e | e <;> subst e <;> simp only [sz0,sz1,sz2,sz3,sz4,sz5,sz6] <;> split at ho <;> (try split at ho) <;> (try split at ho) <;> (try split at ho) <;> (try split at ho) <;> (try split at ho) <;> simp_all <;> omega
def sameT (a b c d a' b' c' d':Int):Bool:=a == a' && (b == b' && (c == c' && d == d'))
theorem run_neq_tops (a b c d a' b' c' d':Int) (W:World):(binOp .neq 25 (.agg #[.int .i64 a, .int .i64 b, .int .i64 c, .int .i64 d]) (.agg #[.int .i64 a', .int .i64 b', .int .i64 c', .int .i64 d'])).run Tryz.prog W = .ok (.bool (!sameT a b c d a' b' c' d')) W:=by
 have u3:=Tryz.underlying3
 have a3:=Tryz.isAgg3
 have z3:=Tryz.sizeOf3
 rw [run_neq_struct,show (10000:Nat)=9999+1 from rfl,Op.equalIn]
 simp only [Sem.run_bind,run_underlying Tryz.underlying25,Result.andThen_ok]
 simp only [Std.Legacy.Range.forIn_eq_forIn_range',Std.Legacy.Range.size,Nat.sub_zero,Nat.add_sub_cancel,Nat.div_one,List.range'_succ,List.range'_zero,List.forIn_cons,List.forIn_nil]
 unfold sameT
 go_simp
 by_cases h1:a=a' <;> by_cases h2:b=b' <;> by_cases h3:c=c' <;> by_cases h4:d=d' <;> simp [h1,h2,h3,h4]
end Go.Proofs.YtcodpnbemdflcaaGreatDoor

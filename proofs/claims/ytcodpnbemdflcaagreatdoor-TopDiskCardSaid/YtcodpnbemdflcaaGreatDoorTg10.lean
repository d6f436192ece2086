/-
  What the heap of blocks that wait does: contracts, one a function.
  What the heap of blocks that wait does, further: one comes, one goes, and the calls by which the library asks: contracts, one a function.
  What the calls by which the library's heap asks do: contracts, one a function.
  What the library's heap does with the blocks that wait: contracts, one a function.
  What the library's heap does with the blocks that wait, further: up, Init, Push and Pop: contracts, one a function.
  What goes out of what waits, and what comes in: the library's Pop and Push, and the queue's own calls: contracts, one a function.
  The queue of free blocks: it is made of a copy, the first one goes out, one comes in: contracts, one a function.
-/
import Derived.Test.YtcodpnbemdflcaaGreatDoorTg7
import Derived.BigRegion
import Derived.Deep.AppendLies
import Derived.Deep.RegionLaw
import Derived.Deep.DeepCutAuto
import Derived.Laws.EntriesVeiled
namespace Go.Proofs.YtcodpnbemdflcaaGreatDoor
open Go.RowKit
def mSize : Value := .func (.methodOf 192 "tumulus/buddy.size") #[] #[]
def mSwap : Value := .func (.methodOf 192 "tumulus/buddy.swap") #[] #[]
def mPush : Value := .func (.methodOf 192 "tumulus/buddy.push") #[] #[]
def mPop : Value := .func (.methodOf 192 "tumulus/buddy.pop") #[] #[]
def mLess:Value := .func (.func 225) #[] #[]
def qcs (g:Nat):List Value := [.pointer (some ⟨g,0,none⟩),mSize,mLess,mSwap,mPush,mPop]
theorem run_mSize (g : Nat) (W : World) : Sem.run Tryz.prog (method 450 192 (.pointer (some ⟨g, 0, none⟩)) "tumulus/buddy.size") W = .ok (224, .pointer (some ⟨g, 0, none⟩)) W := by kernel_rfl
theorem run_mSwap (g : Nat) (W : World) : Sem.run Tryz.prog (method 450 192 (.pointer (some ⟨g, 0, none⟩)) "tumulus/buddy.swap") W = .ok (226, .pointer (some ⟨g, 0, none⟩)) W := by kernel_rfl
theorem run_mPush (g : Nat) (W : World) : Sem.run Tryz.prog (method 450 192 (.pointer (some ⟨g, 0, none⟩)) "tumulus/buddy.push") W = .ok (227, .pointer (some ⟨g, 0, none⟩)) W := by kernel_rfl
theorem run_mPop (g : Nat) (W : World) : Sem.run Tryz.prog (method 450 192 (.pointer (some ⟨g, 0, none⟩)) "tumulus/buddy.pop") W = .ok (228, .pointer (some ⟨g, 0, none⟩)) W := by kernel_rfl
set_option maxHeartbeats 400000 in
theorem size_any (g n c:Nat) (A:Option Addr) (w:World) (h:Whole w g 207 [.slice A n c]) :
  Calls Tryz.prog 224 #[.pointer (some ⟨g,0,none⟩)] w (Says w (.int .i64 (n:Int))):=by
 have c0:=h.cell 0
 go_enter Tryz.func224,Tryz.ntmps224
 go_wp2
 go_ret
 exact ⟨rfl,Grew.refl _⟩
structure QAt (w:World) (base g:Nat) (v:Value) (l:List Blk):Prop where
 at_:Whole w g 207 [v]
 own:OwnB 57 w base v l
 lo:base≤g
theorem QAt.below {w w':World} {base g:Nat} {v:Value} {l:List Blk} (h:QAt w base g v l) (b:Below w.heap.size w w'):QAt w' base g v l:=⟨h.at_.below b,h.own.below b,h.lo⟩
theorem QAt.ne {w:World} {base g n c:Nat} {A:Addr} {l:List Blk} (h:QAt w base g (.slice (some A) n c) l):A.block≠g:=by
 obtain ⟨h1,h2,_⟩:=h
 rcases h2.2 with ⟨e,_⟩ | ⟨g',cap,cur,e,_,hh,_⟩
 ·cases e
 ·injection e with e _ _
  injection e with e
  subst e
  rintro rfl
  unfold Whole at h1
  rw [hh] at h1
  injection h1 with h1
  injection h1 with _ ht
  exact absurd ht (by decide)
theorem two_allocs {w:World} {p:Addr} {v:Value} (hp:p.block < w.heap.size) (h:w.cell? p=some v):(∀ o,(w.alloc o).cell? p=some v) ∧ ∀ o o',((w.alloc o).alloc o').cell? p=some v:=by
 have e : ∀ o,(w.alloc o).cell? p=some v:=fun o=>(((Below.refl w.heap.size w).alloc (Nat.le_refl _) o).cell (p:=p) hp).trans h
 exact ⟨e,fun o o'=>((((Below.refl w.heap.size w).alloc (Nat.le_refl _) o).alloc (by simp) o').cell (p:=p) hp).trans h⟩
set_option maxHeartbeats 1000000 in
theorem less_any (base g:Nat) (v:Value) (l:List Blk) (i j:Nat) (w:World) (h:QAt w base g v l) (hi:i < l.length) (hj:j < l.length) :
  Calls Tryz.prog 225 #[.pointer (some ⟨g,0,none⟩), .int .i64 (i:Int), .int .i64 (j:Int)] w (Says w (.bool (lessB (nth l i) (nth l j)))):=by
 have c:=h.at_.cell 0
 obtain ⟨n,hn⟩ : ∃ n,n=l.length:=⟨_,rfl⟩
 obtain ⟨r,cap,rfl,_,hr,_,_⟩:=h.own.form hn.symm (by omega)
 have hg:=h.at_.lt
 obtain ⟨a0,a1⟩:=h.own.cell hn.symm (nth_get hi)
 obtain ⟨b0,b1⟩:=h.own.cell hn.symm (nth_get hj)
 obtain ⟨⟨x,o⟩,hx⟩ : ∃ x,x=nth l i:=⟨_,rfl⟩
 obtain ⟨⟨y,p⟩,hy⟩ : ∃ x,x=nth l j:=⟨_,rfl⟩
 rw [← hx] at a0 a1 ⊢
 rw [← hy] at b0 b1 ⊢
 rw [← hn] at hi hj
 unfold lessB
 simp only at *
 clear hx hy h hn
 obtain ⟨c',c''⟩:=two_allocs (p:=⟨g,0,none⟩) hg c
 obtain ⟨a0',a0''⟩:=two_allocs (p:=⟨r,i*2,none⟩) hr a0
 obtain ⟨a1',a1''⟩:=two_allocs (p:=⟨r,i*2+1,none⟩) hr a1
 obtain ⟨b0',b0''⟩:=two_allocs (p:=⟨r,j*2,none⟩) hr b0
 obtain ⟨b1',b1''⟩:=two_allocs (p:=⟨r,j*2+1,none⟩) hr b1
 have k1:(i:Int) < (n:Int):=by omega
 have k2:(j:Int) < (n:Int):=by omega
 by_cases e:o=p
 ·subst e
  go_enter Tryz.func225,Tryz.ntmps225
  go_wp2_with fail
  go_region
  all_goals
   go_wp2
   go_ret
   exact ⟨by simp,(((Grew.refl w).alloc _).alloc _).drew⟩
 ·have e2:(o == p)=false:=by simpa using e
  go_enter Tryz.func225,Tryz.ntmps225
  go_wp2_with fail
  go_region
  all_goals
   go_wp2
   go_ret
   exact ⟨by simp [e2],(((Grew.refl w).alloc _).alloc _).drew⟩
structure QStep (w w':World) (g:Nat) (v v':Value):Prop where
 os:w'.os=w.os
 tape:w'.tape=w.tape
 output:w'.output=w.output
 size:w.heap.size≤w'.heap.size
 block : ∀ k,k < w.heap.size→k≠g→v.ownBlock≠some k→w'.heap[k]? = w.heap[k]?
 own:v'.ownBlock=v.ownBlock ∨ ∃ k,v'.ownBlock=some k∧w.heap.size≤k
theorem QStep.of_below {w w':World} (h:Below w.heap.size w w') (g:Nat) (v:Value):QStep w w' g v v:=⟨h.os,h.tape,h.output,h.size,fun k hk _ _=>h.block k hk, .inl rfl⟩
theorem QStep.of_grown {w w':World} {v:Value} (h:w.grownBy w' v.ownBlock) (g:Nat):QStep w w' g v v:=⟨h.os,h.tape,h.output,h.size,fun k hk _ hv=>h.block k hk (fun e=>hv e.symm), .inl rfl⟩
theorem QStep.trans {a b c:World} {g:Nat} {u v x:Value} (h:QStep a b g u v) (k:QStep b c g v x):QStep a c g u x where
 os:=k.os.trans h.os
 tape:=k.tape.trans h.tape
 output:=k.output.trans h.output
 size:=Nat.le_trans h.size k.size
 block:=fun i hi hg hu=>by
  refine (k.block i (Nat.lt_of_lt_of_le hi h.size) hg ?_).trans (h.block i hi hg hu)
  rcases h.own with e | ⟨m,e,hm⟩
  ·rw [e];exact hu
  ·rw [e]
   intro e2
   injection e2 with e2
   omega
 own:=by
  rcases k.own with e | ⟨m,e,hm⟩
  ·rw [e];exact h.own
  ·exact .inr ⟨m,e,Nat.le_trans h.size hm⟩
theorem QStep.below {a b:World} {base g:Nat} {v v':Value} {l:List Blk} (h:QStep a b g v v') (q:QAt a base g v l) {B:Nat} (hB:B≤base):Below B a b :=
 ⟨h.os,h.tape,h.output,h.size,fun k hk=>h.block k (by have:=q.at_.lt;have:=q.lo;omega) (by have:=q.lo;omega) fun e=>by have:=q.own.lt k e;omega⟩
def Waits (w:World) (base g:Nat) (v:Value) (l:List Blk) (v':Value) (w':World):Prop:=QAt w' base g v' l∧QStep w w' g v v'
set_option maxHeartbeats 2000000 in
theorem swap_any (base g:Nat) (v:Value) (l:List Blk) (i j:Nat) (w:World) (h:QAt w base g v l) (hi:i < l.length) (hj:j < l.length) :
  Calls Tryz.prog 226 #[.pointer (some ⟨g,0,none⟩), .int .i64 (i:Int), .int .i64 (j:Int)] w fun e w'=>e = .returned (.tuple #[])∧Waits w base g v (swp2 l i j) v w':=by
 have c:=h.at_.cell 0
 have hg:=h.at_.lt
 obtain ⟨n,hn⟩ : ∃ n,n=l.length:=⟨_,rfl⟩
 obtain ⟨r,cap,rfl,_,hr,_,_⟩:=h.own.form hn.symm (by omega)
 obtain ⟨a0,a1⟩:=h.own.cell hn.symm (nth_get hi)
 obtain ⟨b0,b1⟩:=h.own.cell hn.symm (nth_get hj)
 have f:=h.own.free hn.symm
 obtain ⟨⟨x,o⟩,hx⟩ : ∃ x,x=nth l i:=⟨_,rfl⟩
 obtain ⟨⟨y,p⟩,hy⟩ : ∃ x,x=nth l j:=⟨_,rfl⟩
 rw [← hx] at a0 a1
 rw [← hy] at b0 b1
 simp only at *
 have k1:(i:Int) < (n:Int):=by omega
 have k2:(j:Int) < (n:Int):=by omega
 have H:=Lib.hid h
 have hne:r≠g:=h.ne
 obtain ⟨u1,f1⟩:=cell?_setCell_some (w:=w) (p:=⟨r,i*2,none⟩) (x := .int .i64 y) (q:=⟨r,j*2,none⟩) b0
 obtain ⟨u2',f2'⟩:=cell?_setCell_some (w:=w) (p:=⟨r,i*2,none⟩) (x := .int .i64 y) (q:=⟨r,j*2+1,none⟩) b1
 obtain ⟨u2,f2⟩:=cell?_setCell_some (p:=⟨r,i*2+1,none⟩) (x := .int .i64 p) (q:=⟨r,j*2+1,none⟩) f2'
 obtain ⟨u3,f3⟩:=cell?_setCell_some (w:=w) (p:=⟨r,j*2,none⟩) (x := .int .i64 x) (q:=⟨r,i*2,none⟩) a0
 obtain ⟨u4',f4'⟩:=cell?_setCell_some (w:=w) (p:=⟨r,j*2,none⟩) (x := .int .i64 x) (q:=⟨r,i*2+1,none⟩) a1
 obtain ⟨u4,f4⟩:=cell?_setCell_some (p:=⟨r,j*2+1,none⟩) (x := .int .i64 o) (q:=⟨r,i*2+1,none⟩) f4'
 clear h
 go_enter Tryz.func226,Tryz.ntmps226
 go_wp2_with fail
 go_region
 go_end0
 have hg1:=grown_trans (grown_trans (grown_trans (grown_set w r (i*2) (.int .i64 y)) (grown_set _ r (i*2+1) (.int .i64 p))) (grown_set _ r (j*2) (.int .i64 x))) (grown_set _ r (j*2+1) (.int .i64 o))
 have o1:=(H.out.own.set hn.symm i (y,p)).set (by rw [List.length_set];exact hn.symm) j (x,o)
 have e:(l.set i (y,p)).set j (x,o)=swp2 l i j:=by rw [hx,hy];rfl
 rw [e] at o1
 have hg2:=grown_trans hg1 (grown_below ((Below.refl _ _).drew) (some r))
 exact ⟨rfl,⟨H.out.at_.grown hg2 (fun e=>hne e.symm),o1.drew,H.out.lo⟩,QStep.of_grown hg2 g⟩
end Go.Proofs.YtcodpnbemdflcaaGreatDoor
namespace Go.Proofs.YtcodpnbemdflcaaGreatDoor
open Go.RowKit
theorem Tryz.infoBlk:(Tryz.prog.info? 57).map (fun i=>(i.zero,i.size,i.bytes))=some (some (.agg #[.int .i64 0, .int .i64 0]),2,16):=by kernel_rfl
theorem step_append_run {P:Program} {ops:Array Oper} {o:Oper} {a:Act} {w w':World} {K:Act→World→Prop} {Q:Exit→Act→World→Prop} {E:Prop} {v y v':Value} {t u ty:TypeId}
  (hrun:(Builtin.append_ #[t,u] ty #[v,y]).run P w = .ok v' w') (hgd:o.guard=none) (s x:Operand)
  (ho:o.op = .call { callee := .builtin .append,args := #[s,x],argTypes := #[t,u] }) (hty:o.type=ty) (hs:a.eval s=v) (hx:a.eval x=y)
  (hK:K (a.put o.dst v') w'):if Region.wanted o (yielded ops a.tmps)=true then Oper.wp P o a w K Q else E:=by
 have hw:Region.wanted o (yielded ops a.tmps)=true:=by simp [Region.wanted,hgd]
 rw [if_pos hw]
 subst hty
 unfold Oper.wp execOp
 simp only [ho,resolve,invoke,builtin,Sem.run_bind,Sem.run_pure,Result.andThen_ok,List.map_toArray,List.map_cons,List.map_nil,hs,hx,hrun]
 exact hK
theorem QAt.off {w:World} {base g:Nat} {v:Value} {l:List Blk} (h:QAt w base g v l):v.ownBlock≠some g:=by
 intro e
 rcases h.own.2 with ⟨e2,_⟩ | ⟨g',cap,cur,e2,_,hh,_⟩
 ·rw [e2] at e;cases e
 ·rw [e2] at e
  injection e with e
  have h3:=h.at_
  unfold Whole at h3
  rw [← e,hh] at h3
  injection h3 with h3
  injection h3 with _ ht
  exact absurd ht (by decide)
theorem Waits.below {w w1 w2:World} {base g:Nat} {v v':Value} {l:List Blk} (h:Waits w base g v l v' w1) (b:Below w1.heap.size w1 w2):Waits w base g v l v' w2:=⟨h.1.below b,h.2.trans (QStep.of_below b g v')⟩
theorem Waits.trans {w w1 w2:World} {base g:Nat} {v v' v'':Value} {l m:List Blk} (h:Waits w base g v l v' w1) (k:Waits w1 base g v' m v'' w2):Waits w base g v m v'' w2:=⟨k.1,h.2.trans k.2⟩
theorem QAt.waits {w w1:World} {base g:Nat} {v:Value} {l:List Blk} (h:QAt w base g v l) (b:Below w.heap.size w w1):Waits w base g v l v w1:=⟨h.below b,QStep.of_below b g v⟩
theorem waits_store {w w1 w2:World} {base g:Nat} {v v':Value} {l m:List Blk} (h:QAt w base g v l) (hB:Below w.heap.size w w1) (ho:OwnB 57 w2 base v' m) (hg:w1.grownBy w2 v.ownBlock)
  (hv:v'.ownBlock=v.ownBlock ∨ ∃ k,v'.ownBlock=some k∧w1.heap.size≤k):Waits w base g v m v' (w2.setCell ⟨g,0,none⟩ v'):=by
 have h1:=h.below hB
 have hlt:=h.at_.lt
 have hne:=h.off
 have W2:Whole w2 g 207 [v]:=h1.at_.keep (hg.block g h1.at_.lt fun e=>hne e.symm)
 have hs:=hB.size
 have hs2:=hg.size
 have hne':v'.ownBlock≠some g:=by
  rcases hv with e | ⟨k,e,hk⟩
  ·rw [e];exact hne
  ·rw [e];intro e2;injection e2 with e2;omega
 refine ⟨⟨W2.set 0 v',ho.keep fun k hk=>heap_setCell_other w2 ⟨g,0,none⟩ k v' (by rintro rfl;exact hne' hk),h.lo⟩,?_⟩
 refine ⟨hg.os.trans hB.os,hg.tape.trans hB.tape,hg.output.trans hB.output,by simp [World.setCell];omega,fun k hk hkg hkv => ?_,?_⟩
 ·rw [heap_setCell_other w2 ⟨g,0,none⟩ k v' hkg,hg.block k (by omega) (fun e=>hkv e.symm),hB.block k hk]
 ·rcases hv with e | ⟨k,e,hk⟩
  ·exact .inl e
  ·exact .inr ⟨k,e,by omega⟩
set_option maxHeartbeats 2000000 in
theorem push_any (base g:Nat) (v:Value) (l:List Blk) (b:Blk) (w:World) (h:QAt w base g v l) (hl:l.length≤1000) (hb:base≤w.heap.size) :
  Calls Tryz.prog 227 #[.pointer (some ⟨g,0,none⟩),bval b] w fun e w'=>e = .returned (.tuple #[]) ∧ ∃ v',Waits w base g v (l ++ [b]) v' w':=by
 have hB:=(Below.refl w.heap.size w).alloc (Nat.le_refl _) (.cells #[.int .i64 b.1, .int .i64 b.2] 57)
 have h1:=h.below hB
 have h2:=h1.below (Below.refl _ _).drew
 obtain ⟨v',w2,hrun,happ⟩:=run_appB_one (P:=Tryz.prog) (w:=(w.alloc (.cells #[.int .i64 b.1, .int .i64 b.2] 57)).drew) base 205 205 57 Tryz.underlying205 Tryz.infoBlk rfl v l h2.own b (by omega) (Nat.le_trans hb hB.size)
 obtain ⟨A,n,c,hv⟩ : ∃ A n c,v = .slice A n c:=by
  obtain ⟨A,c,e,_⟩:=h.own.shape rfl
  exact ⟨_,_,_,e⟩
 obtain ⟨A',n',c',hv'⟩ : ∃ A n c,v' = .slice A n c:=by
  obtain ⟨A,c,e,_⟩:=happ.1.shape rfl
  exact ⟨_,_,_,e⟩
 obtain ⟨c0,c00⟩:=two_allocs (p:=⟨g,0,none⟩) h.at_.lt (h.at_.cell 0)
 have hgv:some g≠v.ownBlock:=fun e=>h.off e.symm
 have W2:Whole w2 g 207 [v]:=h2.at_.keep (happ.2.1.block g h2.at_.lt hgv)
 have cw:=W2.cell 0
 have fw:=W2.free 0
 have HW:=Lib.hid W2
 have Hap:=Lib.hid happ
 have HB:=Lib.hid hB
 have H:=Lib.hid h
 have hgd:=Lib.hid hgv
 clear h h1 h2 hB W2 happ hgv
 obtain ⟨x,o⟩:=b
 unfold bval enc2
 simp only at *
 subst hv
 subst hv'
 have hrun2:Sem.run Tryz.prog (Builtin.append_ #[205,205] 205 #[.slice A n c, .slice (some ⟨w.heap.size+1,0,none⟩) 1 1]) ((w.alloc (.cells #[.int .i64 x, .int .i64 o] 57)).alloc (.cells #[.int .i64 x, .int .i64 o] 57)).drew = .ok (.slice A' n' c') w2:=by
  have e:(w.alloc (.cells #[.int .i64 x, .int .i64 o] 57)).drew.heap.size=w.heap.size+1:=by simp
  rw [e] at hrun
  exact hrun
 clear hrun
 go_enter Tryz.func227,Tryz.ntmps227
 go_wp2_with fail
 go_region_law (refine step_append_run hrun2 rfl (.tmp 7) (.tmp 9) rfl rfl rfl rfl ?_)
 all_goals
  go_end0
  exact ⟨rfl,_,waits_store H.out (HB.out.trans ((Below.refl _ _).drew.mono HB.out.size)) Hap.out.1 Hap.out.2.1 Hap.out.2.2⟩
set_option maxHeartbeats 2000000 in
theorem pop_any (base g:Nat) (v:Value) (l:List Blk) (m:Nat) (w:World) (h:QAt w base g v l) (hl:l.length=m+1) (h2:m≤1000) :
  Calls Tryz.prog 228 #[.pointer (some ⟨g,0,none⟩)] w fun e w'=>e = .returned (bval (nth l m)) ∧ ∃ v',Waits w base g v (l.take m) v' w':=by
 obtain ⟨r,cap,rfl,_,hr,hc,hcm⟩:=h.own.form hl (by omega)
 obtain ⟨c0,c00⟩:=two_allocs (p:=⟨g,0,none⟩) h.at_.lt (h.at_.cell 0)
 obtain ⟨a0,a1⟩:=h.own.cell hl (nth_get (show m < l.length by omega))
 obtain ⟨a0',a0''⟩:=two_allocs (p:=⟨r,m*2,none⟩) hr a0
 obtain ⟨a1',a1''⟩:=two_allocs (p:=⟨r,m*2+1,none⟩) hr a1
 have hcut:=h.own.cut hl (show m≤m+1 by omega)
 have hg:=h.at_.lt
 have f0 : ∀ o o',((w.alloc o).alloc o').frozen? ⟨g,0,none⟩=false:=fun o o'=>by
  have b:=((Below.refl w.heap.size w).alloc (Nat.le_refl _) o).alloc (by simp) o'
  exact (h.at_.below b).free 0
 have g1:w.heap.size+1≠g:=by omega
 have g2:w.heap.size≠g:=by omega
 have g3:g≠w.heap.size+1:=by omega
 have g4:g≠w.heap.size:=by omega
 obtain ⟨⟨x,o⟩,hx⟩ : ∃ x,x=nth l m:=⟨_,rfl⟩
 rw [← hx] at a0 a1 a0' a1' a0'' a1'' ⊢
 unfold bval enc2
 simp only at *
 have k1:(m:Int) < ((m+1:Nat):Int):=by omega
 have k2:((m+1:Nat):Int) - 1=(m:Int):=by omega
 have H:=Lib.hid h
 have Hcut:=Lib.hid hcut
 unfold maxLen at hcm
 clear h hcut hx hl
 go_enter Tryz.func228,Tryz.ntmps228
 go_wp2
 have hW:Waits w base g (.slice (some ⟨r,0,none⟩) (m+1) cap) (l.take m) (.slice (some ⟨r,0,none⟩) m cap) (w.setCell ⟨g,0,none⟩ (.slice (some ⟨r,0,none⟩) m cap)) :=
  waits_store H.out (Below.refl _ _) Hcut.out (grown_refl _ _) (.inl rfl)
 have hs:(w.setCell ⟨g,0,none⟩ (.slice (some ⟨r,0,none⟩) m cap)).heap.size=w.heap.size:=by simp [World.setCell]
 generalize w.setCell ⟨g,0,none⟩ (.slice (some ⟨r,0,none⟩) m cap)=w1 at hW hs ⊢
 have B1:=(Box2.new w1 (x,o) 57).alloc (.cells #[.int .i64 x, .int .i64 o] 57)
 rw [hs] at B1
 refine bodyPost_ret (results_box (b:=(x,o)) rfl _ _ w.heap.size rfl B1.c0 B1.c1) rfl ?_
 exact ⟨rfl,_,hW.below (((Below.refl _ _).alloc (Nat.le_refl _) _).alloc (by simp) _)⟩
end Go.Proofs.YtcodpnbemdflcaaGreatDoor
namespace Go.Proofs.YtcodpnbemdflcaaGreatDoor
open Go.RowKit
def qv (g:Nat):Value := .agg (qcs g).toArray
def qi (g:Nat):Value := .iface 201 (qv g)
theorem run_iLen (g : Nat) (W : World) : Sem.run Tryz.prog (method 450 201 (qv g) "Len") W = .ok (182, qv g) W := by kernel_rfl
theorem run_iLess (g : Nat) (W : World) : Sem.run Tryz.prog (method 450 201 (qv g) "Less") W = .ok (283, qv g) W := by kernel_rfl
theorem run_iSwap (g : Nat) (W : World) : Sem.run Tryz.prog (method 450 201 (qv g) "Swap") W = .ok (286, qv g) W := by kernel_rfl
theorem run_iPush (g : Nat) (W : World) : Sem.run Tryz.prog (method 450 201 (qv g) "Push") W = .ok (285, qv g) W := by kernel_rfl
theorem run_iPop (g : Nat) (W : World) : Sem.run Tryz.prog (method 450 201 (qv g) "Pop") W = .ok (284, qv g) W := by kernel_rfl
theorem run_assert (x o:Int) (W:World):Sem.run Tryz.prog (Instr.typeAssert (.iface 57 (.agg #[.int .i64 x, .int .i64 o])) 20 57 true) W = .ok (.tuple #[.agg #[.int .i64 x, .int .i64 o], .bool true]) W:=by kernel_rfl
theorem grew_one (w:World) (o:Obj):Grew w (w.alloc o):=(Grew.refl w).alloc o
set_option maxRecDepth 100000 in
set_option maxHeartbeats 1000000 in
theorem qLen_any (base g:Nat) (v:Value) (l:List Blk) (w:World) (h:QAt w base g v l) :
  Calls Tryz.prog 182 #[qv g] w (Says w (.int .i64 (l.length:Int))):=by
 obtain ⟨A,c,rfl,_⟩:=h.own.shape rfl
 have S:=fun o=>size_any g l.length c A _ (h.below (grew_one w o).below).at_
 have hM:=run_mSize g
 clear h
 unfold qv qcs mSize mSwap mPush mPop mLess
 go_enter Tryz.func182,Tryz.ntmps182
 go_wp2_with (go_at_call 224;refine (S _).mono ?_;rintro e w1 ⟨rfl,g1⟩)
 go_ret
 exact ⟨rfl,(grew_one w _).trans g1⟩
set_option maxRecDepth 100000 in
set_option maxHeartbeats 1000000 in
theorem qLess_any (base g:Nat) (v:Value) (l:List Blk) (i j:Nat) (w:World) (h:QAt w base g v l) (hi:i < l.length) (hj:j < l.length) :
  Calls Tryz.prog 283 #[qv g, .int .i64 (i:Int), .int .i64 (j:Int)] w (Says w (.bool (lessB (nth l i) (nth l j)))):=by
 have S:=fun o=>less_any base g v l i j _ (h.below (grew_one w o).below) hi hj
 obtain ⟨r,hr⟩ : ∃ r,r=lessB (nth l i) (nth l j):=⟨_,rfl⟩
 rw [← hr] at S ⊢
 clear h hr
 unfold qv qcs mSize mSwap mPush mPop mLess
 go_enter Tryz.func283,Tryz.ntmps283
 go_wp2_with (go_at_call 225;refine (S _).mono ?_;rintro e w1 ⟨rfl,g1⟩)
 go_ret
 exact ⟨rfl,(grew_one w _).trans g1⟩
set_option maxRecDepth 100000 in
set_option maxHeartbeats 1000000 in
theorem qSwap_any (base g:Nat) (v:Value) (l:List Blk) (i j:Nat) (w:World) (h:QAt w base g v l) (hi:i < l.length) (hj:j < l.length) :
  Calls Tryz.prog 286 #[qv g, .int .i64 (i:Int), .int .i64 (j:Int)] w fun e w'=>e = .returned (.tuple #[])∧Waits w base g v (swp2 l i j) v w':=by
 have S:=fun o=>swap_any base g v l i j _ (h.below (grew_one w o).below) hi hj
 have hW:=fun o=>h.waits (grew_one w o).below
 have hM:=run_mSwap g
 clear h
 unfold qv qcs mSize mSwap mPush mPop mLess
 go_enter Tryz.func286,Tryz.ntmps286
 go_wp2_with (go_at_call 226;refine (S _).mono ?_;rintro e w1 ⟨rfl,g1⟩)
 go_end0
 exact ⟨rfl,(hW _).trans g1⟩
set_option maxRecDepth 100000 in
set_option maxHeartbeats 1000000 in
theorem qPush_any (base g:Nat) (v:Value) (l:List Blk) (b:Blk) (w:World) (h:QAt w base g v l) (hl:l.length≤1000) (hb:base≤w.heap.size) :
  Calls Tryz.prog 285 #[qv g, .iface 57 (bval b)] w fun e w'=>e = .returned (.tuple #[]) ∧ ∃ v',Waits w base g v (l ++ [b]) v' w':=by
 have S:=fun o o'=>push_any base g v l b _ ((h.below (grew_one w o).below).below (grew_one _ o').below) hl (Nat.le_trans hb (Nat.le_trans (grew_one w o).below.size (grew_one _ o').below.size))
 have hW:=fun o o'=>(h.waits (grew_one w o).below).trans ((h.below (grew_one w o).below).waits (grew_one _ o').below)
 have hM:=run_mPush g
 have hA:=run_assert
 clear h
 obtain ⟨x,o⟩:=b
 unfold bval enc2 at *
 simp only at *
 unfold qv qcs mSize mSwap mPush mPop mLess
 go_enter Tryz.func285,Tryz.ntmps285
 go_wp2_with (go_at_call 227;refine (S _ _).mono ?_;rintro e w1 ⟨rfl,v',g1⟩)
 go_end0
 exact ⟨rfl,v',(hW _ _).trans g1⟩
set_option maxRecDepth 100000 in
set_option maxHeartbeats 1000000 in
theorem qPop_any (base g:Nat) (v:Value) (l:List Blk) (m:Nat) (w:World) (h:QAt w base g v l) (hl:l.length=m+1) (h2:m≤1000) :
  Calls Tryz.prog 284 #[qv g] w fun e w'=>e = .returned (.iface 57 (bval (nth l m))) ∧ ∃ v',Waits w base g v (l.take m) v' w':=by
 have S:=fun o=>pop_any base g v l m _ (h.below (grew_one w o).below) hl h2
 have hW:=fun o=>h.waits (grew_one w o).below
 have hM:=run_mPop g
 obtain ⟨⟨x,o⟩,hx⟩ : ∃ x,x=nth l m:=⟨_,rfl⟩
 rw [← hx] at S ⊢
 clear h hx
 unfold bval enc2 at *
 simp only at *
 unfold qv qcs mSize mSwap mPush mPop mLess
 go_enter Tryz.func284,Tryz.ntmps284
 go_wp2_with (go_at_call 228;refine (S _).mono ?_;rintro e w1 ⟨rfl,v',g1⟩)
 go_ret
 exact ⟨rfl,v',(hW _).trans g1⟩
end Go.Proofs.YtcodpnbemdflcaaGreatDoor
namespace Go.Proofs.YtcodpnbemdflcaaGreatDoor
open Go.RowKit
def DownTo (w:World) (base g:Nat) (v:Value) (l:List Blk) (n k:Nat) (l':List Blk) (w':World):Prop :=
 l'.Perm l∧(∀ j,n≤j→nth l' j=nth l j)∧HeapFrom l' n k∧Waits w base g v l' v w'
def DownRel (w:World) (base g:Nat) (v:Value) (l:List Blk) (n i0:Nat) (i:Value) (wr:World):Prop :=
 ∃ (k:Nat) (l':List Blk),i = .int .i64 (k:Int)∧i0≤k∧k≤1000∧l'.Perm l∧(∀ j,n≤j→nth l' j=nth l j)∧HeapBut l' n i0 k∧Waits w base g v l' v wr
theorem DownRel.done {w wr w1:World} {base g n i0:Nat} {v:Value} {l l':List Blk} (hp:l'.Perm l) (hs : ∀ j,n≤j→nth l' j=nth l j) (hh:HeapFrom l' n i0) (hw:Waits w base g v l' v wr) (hg:Grew wr w1) :
  ∃ l',DownTo w base g v l n i0 l' w1:=⟨l',hp,hs,hh,hw.below hg.below⟩
theorem DownRel.next {w wr w1 w2:World} {base g n i0 k j:Nat} {v:Value} {l l':List Blk} (hp:l'.Perm l) (hs : ∀ j,n≤j→nth l' j=nth l j) (hh:HeapBut l' n i0 k) (hw:Waits w base g v l' v wr) (hg:Grew wr w1)
  (hk:i0≤k) (hl:l'.length≤1000) (hn:n≤l'.length) (hj:j=2*k+1∨j=2*k+2) (hjn:j < n) (hlq:Lq (nth l' j) (nth l' k)) (ho : ∀ c,(c=2*k+1∨c=2*k+2)→c < n→Lq (nth l' j) (nth l' c))
  (h2:Waits w1 base g v (swp2 l' k j) v w2):DownRel w base g v l n i0 (.int .i64 (j:Int)) w2:=by
 refine ⟨j,swp2 l' k j,rfl,by omega,by omega,(swp2_perm (by omega) (by omega)).trans hp,fun m hm => ?_,hh.down hk hn hj hjn hlq ho,(hw.below hg.below).trans h2⟩
 rw [nth_swp2 (by omega) (by omega),if_neg (by omega),if_neg (by omega)]
 exact hs m hm
set_option maxRecDepth 100000 in
set_option maxHeartbeats 4000000 in
theorem down_any (base g:Nat) (v:Value) (l:List Blk) (i0 n:Nat) (w:World) (h:QAt w base g v l) (hn:n≤l.length) (hl:l.length≤1000) (hi:i0≤1000) (hk:HeapFrom l n (i0+1)) :
  Calls Tryz.prog 229 #[qi g, .int .i64 (i0:Int), .int .i64 (n:Int)] w fun e w'=>(∃ r:Value,e = .returned r) ∧ ∃ l',DownTo w base g v l n i0 l' w':=by
 have mL:=run_iLess g
 have mS:=run_iSwap g
 unfold qi
 go_enter Tryz.func229,Tryz.ntmps229
 go_wp2
 go_loopw [7] (DownRel w base g v l n i0) (fun i _=>1001 - (intOf i).toNat)
 case atStart=>exact ⟨i0,l,rfl,Nat.le_refl _,hi,List.Perm.refl _,fun _ _=>rfl,heapBut_of hk,h.waits (Below.refl _ _)⟩
 case round =>
  clear h hk
  obtain ⟨k,l',rfl,hik,hk1,hp,hs,hh,hw⟩:=hrel
  have hlen:=hp.length_eq
  rw [← hlen] at hn hl
  have hq:=hw.1
  obtain ⟨a,ha⟩ : ∃ a,a=2*k+1:=⟨_,rfl⟩
  obtain ⟨b,hb⟩ : ∃ b,b=2*k+2:=⟨_,rfl⟩
  have e1:=Lib.hid (show (2:Int)*(k:Int)+1=(a:Int) by omega)
  have e2:=Lib.hid (show (a:Int)+1=(b:Int) by omega)
  have HA:=Lib.hid (show a=2*k+1∧b=2*k+2 from ⟨ha,hb⟩)
  have hab:a < b:=by omega
  have ha1:a≤2001:=by omega
  have hb1:b≤2002:=by omega
  have hka:k < a:=by omega
  have hbn:a < n→b≤n:=by omega
  clear ha hb
  go_upto_region 3 with (fail)
  rw [e1.out]
  clear e1
  by_cases h1:n≤a
  ·have t1:decide ((n:Int)≤(a:Int))=true:=by simp;omega
   clear e2
   go_wp2
   go_ret
   exact ⟨⟨_,rfl⟩,DownRel.done hp hs (hh.none (by have:=HA.out;omega)) hw (Grew.refl _)⟩
  ·have t1:decide ((n:Int)≤(a:Int))=false:=by simp;omega
   go_upto_region 6 with (fail)
   rw [e2.out]
   clear e2
   by_cases h2:b < n
   ·have t2:decide ((b:Int) < (n:Int))=true:=by simp;omega
    cases r1:lessB (nth l' b) (nth l' a) with
    | false =>
     have L1:=qLess_any base g v l' b a wr hq (by omega) (by omega)
     rw [r1] at L1
     go_upto_region 8 with (go_at_call 283;refine L1.mono ?_;rintro e w1 ⟨rfl,G1⟩)
     clear L1
     cases r2:lessB (nth l' a) (nth l' k) with
     | false =>
      have L2:=fun G=>qLess_any base g v l' a k w1 (hq.below (G:Grew wr w1).below) (by omega) (by omega)
      rw [r2] at L2
      go_wp2_with (go_at_call_of 283 k;refine (L2 (G1)).mono ?_;rintro e w2 ⟨rfl,G2⟩)
      go_ret
      exact ⟨⟨_,rfl⟩,DownRel.done hp hs (hh.fits (fun _=>by rw [← HA.out.1];exact lessB_no r2) (fun _=>by rw [← HA.out.2];exact (lessB_no r2).trans (lessB_no r1))) hw ((G1).trans G2)⟩
     | true =>
      have L2:=fun G=>qLess_any base g v l' a k w1 (hq.below (G:Grew wr w1).below) (by omega) (by omega)
      rw [r2] at L2
      go_wp2_with (first | (go_at_call_of 283 k;refine (L2 (G1)).mono ?_;rintro e w2 ⟨rfl,G2⟩) | (go_at_call 286;refine (qSwap_any base g v l' k a w2 (hq.below ((G1).trans G2).below) (by omega) (by omega)).mono ?_;rintro e w3 ⟨rfl,hw3⟩))
      go_roundw
      case rel=>exact DownRel.next hp hs hh hw ((G1).trans G2) hik hl hn (by have:=HA.out;omega) (by omega) (lessB_yes r2) (fun c hc _=>by rcases hc with rfl | rfl;rw [← HA.out.1];exact Lq.refl _;rw [← HA.out.2];exact lessB_no r1) hw3
      case measure=>simp [intOf];omega
    | true =>
     have L1:=qLess_any base g v l' b a wr hq (by omega) (by omega)
     rw [r1] at L1
     go_upto_region 8 with (go_at_call 283;refine L1.mono ?_;rintro e w1 ⟨rfl,G1⟩)
     clear L1
     cases r2:lessB (nth l' b) (nth l' k) with
     | false =>
      have L2:=fun G=>qLess_any base g v l' b k w1 (hq.below (G:Grew wr w1).below) (by omega) (by omega)
      rw [r2] at L2
      go_wp2_with (go_at_call_of 283 k;refine (L2 (G1)).mono ?_;rintro e w2 ⟨rfl,G2⟩)
      go_ret
      exact ⟨⟨_,rfl⟩,DownRel.done hp hs (hh.fits (fun _=>by rw [← HA.out.1];exact (lessB_no r2).trans (lessB_yes r1)) (fun _=>by rw [← HA.out.2];exact lessB_no r2)) hw ((G1).trans G2)⟩
     | true =>
      have L2:=fun G=>qLess_any base g v l' b k w1 (hq.below (G:Grew wr w1).below) (by omega) (by omega)
      rw [r2] at L2
      go_wp2_with (first | (go_at_call_of 283 k;refine (L2 (G1)).mono ?_;rintro e w2 ⟨rfl,G2⟩) | (go_at_call 286;refine (qSwap_any base g v l' k b w2 (hq.below ((G1).trans G2).below) (by omega) (by omega)).mono ?_;rintro e w3 ⟨rfl,hw3⟩))
      go_roundw
      case rel=>exact DownRel.next hp hs hh hw ((G1).trans G2) hik hl hn (by have:=HA.out;omega) (by omega) (lessB_yes r2) (fun c hc _=>by rcases hc with rfl | rfl;rw [← HA.out.1];exact lessB_yes r1;rw [← HA.out.2];exact Lq.refl _) hw3
      case measure=>simp [intOf];omega
   ·have t2:decide ((b:Int) < (n:Int))=false:=by simp;omega
    cases r2:lessB (nth l' a) (nth l' k) with
    | false =>
     have L2:=fun G=>qLess_any base g v l' a k wr (hq.below (G:Grew wr wr).below) (by omega) (by omega)
     rw [r2] at L2
     go_wp2_with (go_at_call_of 283 k;refine (L2 (Grew.refl wr)).mono ?_;rintro e w2 ⟨rfl,G2⟩)
     go_ret
     exact ⟨⟨_,rfl⟩,DownRel.done hp hs (hh.fits (fun _=>by rw [← HA.out.1];exact lessB_no r2) (fun h=>absurd h (by have:=HA.out;omega))) hw ((Grew.refl wr).trans G2)⟩
    | true =>
     have L2:=fun G=>qLess_any base g v l' a k wr (hq.below (G:Grew wr wr).below) (by omega) (by omega)
     rw [r2] at L2
     go_wp2_with (first | (go_at_call_of 283 k;refine (L2 (Grew.refl wr)).mono ?_;rintro e w2 ⟨rfl,G2⟩) | (go_at_call 286;refine (qSwap_any base g v l' k a w2 (hq.below ((Grew.refl wr).trans G2).below) (by omega) (by omega)).mono ?_;rintro e w3 ⟨rfl,hw3⟩))
     go_roundw
     case rel=>exact DownRel.next hp hs hh hw ((Grew.refl wr).trans G2) hik hl hn (by have:=HA.out;omega) (by omega) (lessB_yes r2) (fun c hc hcn=>by rcases hc with rfl | rfl;rw [← HA.out.1];exact Lq.refl _;have:=HA.out;omega) hw3
     case measure=>simp [intOf];omega
end Go.Proofs.YtcodpnbemdflcaaGreatDoor
namespace Go.Proofs.YtcodpnbemdflcaaGreatDoor
open Go.RowKit
def Made (w:World) (base g:Nat) (v:Value) (l l':List Blk) (v':Value) (w':World):Prop:=l'.Perm l∧HeapFrom l' l'.length 0∧Waits w base g v l' v' w'
def UpRel (w:World) (base g:Nat) (v:Value) (l:List Blk) (i:Value) (wr:World):Prop :=
 ∃ (k:Nat) (l':List Blk),i = .int .i64 (k:Int)∧k < l'.length∧l'.Perm l∧HeapUp l' k∧Waits w base g v l' v wr
theorem UpRel.next {w wr w1 w2:World} {base g k p:Nat} {v:Value} {l l':List Blk} (hp:l'.Perm l) (hh:HeapUp l' k) (hw:Waits w base g v l' v wr) (hg:Grew wr w1)
  (hk:k < l'.length) (hj:k=2*p+1∨k=2*p+2) (hlq:Lq (nth l' k) (nth l' p)) (h2:Waits w1 base g v (swp2 l' p k) v w2):UpRel w base g v l (.int .i64 (p:Int)) w2 :=
 ⟨p,swp2 l' p k,rfl,by rw [swp2_length];omega,(swp2_perm (by omega) hk).trans hp,hh.up hj hk hlq,(hw.below hg.below).trans h2⟩
set_option maxRecDepth 100000 in
set_option maxHeartbeats 4000000 in
theorem up_any (base g:Nat) (v:Value) (l:List Blk) (j:Nat) (w:World) (h:QAt w base g v l) (hj:j < l.length) (hl:l.length≤1001) (hk:HeapUp l j) :
  Calls Tryz.prog 231 #[qi g, .int .i64 (j:Int)] w fun e w'=>e = .returned (.tuple #[]) ∧ ∃ l',Made w base g v l l' v w':=by
 have mL:=run_iLess g
 have mS:=run_iSwap g
 unfold qi
 go_enter Tryz.func231,Tryz.ntmps231
 go_wp2
 go_loopw [1] (UpRel w base g v l) (fun i _=>(intOf i).toNat)
 case atStart=>exact ⟨j,l,rfl,hj,List.Perm.refl _,hk,h.waits (Below.refl _ _)⟩
 case round =>
  clear h hk hj
  obtain ⟨k,l',rfl,hkl,hp,hh,hw⟩:=hrel
  have hlen:=hp.length_eq
  rw [← hlen] at hl
  have hq:=hw.1
  by_cases h0:k=0
  ·subst h0
   go_wp2
   go_end0
   exact ⟨rfl,l',hp,hh.top,hw⟩
  ·obtain ⟨p,hpk⟩ : ∃ p,p=(k - 1) / 2:=⟨_,rfl⟩
   have e1:=Lib.hid (show ((k:Int) - 1) / 2=(p:Int) by omega)
   have HA:=Lib.hid (show k=2*p+1∨k=2*p+2 by omega)
   have hpk2:p < k:=by omega
   have hk1:1≤k:=by omega
   clear hpk
   go_upto_region 1 with (fail)
   rw [e1.out]
   clear e1
   have t1:((p:Int) == (k:Int))=false:=by simp;omega
   have L1:=qLess_any base g v l' k p wr hq hkl (by omega)
   cases r1:lessB (nth l' k) (nth l' p) with
   | false =>
    rw [r1] at L1
    go_wp2_with (go_at_call 283;refine L1.mono ?_;rintro e w1 ⟨rfl,G1⟩)
    go_end0
    exact ⟨rfl,l',hp,hh.fits HA.out (lessB_no r1),hw.below G1.below⟩
   | true =>
    rw [r1] at L1
    go_wp2_with (first | (go_at_call 283;refine L1.mono ?_;rintro e w1 ⟨rfl,G1⟩) | (go_at_call 286;refine (qSwap_any base g v l' p k w1 (hq.below G1.below) (by omega) hkl).mono ?_;rintro e w2 ⟨rfl,hw2⟩))
    go_roundw
    case rel=>exact UpRel.next hp hh hw G1 hkl HA.out (lessB_yes r1) hw2
    case measure=>simp [intOf];omega
def InitRel (w:World) (base g:Nat) (v:Value) (l:List Blk) (i:Value) (wr:World):Prop :=
 ∃ (k:Nat) (l':List Blk),i = .int .i64 ((k:Int) - 1)∧k≤l.length / 2∧l'.Perm l∧HeapFrom l' l.length k∧Waits w base g v l' v wr
set_option maxRecDepth 100000 in
set_option maxHeartbeats 4000000 in
theorem init_any (base g:Nat) (v:Value) (l:List Blk) (w:World) (h:QAt w base g v l) (hl:l.length≤1000) :
  Calls Tryz.prog 177 #[qi g] w fun e w'=>e = .returned (.tuple #[]) ∧ ∃ l',Made w base g v l l' v w':=by
 have mL:=run_iLen g
 have S:=qLen_any base g v l w h
 obtain ⟨n,hn⟩ : ∃ n,n=l.length:=⟨_,rfl⟩
 rw [← hn] at S hl
 have HN:=Lib.hid hn
 have hi:qi g = .iface 201 (qv g):=rfl
 have HD:=fun (W:World) (l':List Blk) (i:Nat) (hq:QAt W base g v l') (h1:l'.length=n) (hi:i≤1000) (hh:HeapFrom l' n (i+1))=>down_any base g v l' i n W hq (by omega) (by omega) hi hh
 rw [hi] at HD
 have HH:=Lib.hid HD
 clear HD hi
 unfold qi
 have Hh:=Lib.hid h
 clear h hn
 go_enter Tryz.func177,Tryz.ntmps177
 go_wp2_with (go_at_call 182;refine S.mono ?_;rintro e w1 ⟨rfl,G1⟩)
 clear S
 go_loopw [3] (InitRel w base g v l) (fun i _=>(intOf i+1).toNat)
 case atStart =>
  exact ⟨n / 2,l,by go_num,by rw [HN.out];exact Nat.le_refl _,List.Perm.refl _,fun j c hj hc hcn=>by have:=HN.out;omega,Hh.out.waits G1.below⟩
 case round =>
  obtain ⟨k,l',rfl,hkn,hp,hh,hw⟩:=hrel
  rw [← HN.out] at hkn hh
  have hlen:=hp.length_eq
  by_cases h0:k=0
  ·subst h0
   have hd:=Lib.hid hh
   clear hh
   go_wp2
   go_end0
   exact ⟨rfl,l',hp,by rw [hlen, ← HN.out];exact hd.out,hw⟩
  ·obtain ⟨m,rfl⟩ : ∃ m,k=m+1:=⟨k - 1,by omega⟩
   have hm:m≤1000:=by omega
   have e1:((m+1:Nat):Int) - 1=(m:Int):=by omega
   rw [e1]
   clear e1
   have D:=HH.out wr l' m hw.1 (by rw [hlen, ← HN.out]) hm hh
   have hd:=Lib.hid hh
   clear hh
   go_wp2_with (go_at_call 229;refine D.mono ?_;rintro e w2 ⟨⟨rv,rfl⟩,l2,hp2,hs2,hh2,hw2⟩)
   go_roundw
   case rel=>exact ⟨m,l2,rfl,by have:=HN.out;omega,hp2.trans hp,by rw [← HN.out];exact hh2,hw.trans hw2⟩
   case measure=>simp [intOf]
end Go.Proofs.YtcodpnbemdflcaaGreatDoor
namespace Go.Proofs.YtcodpnbemdflcaaGreatDoor
open Go.RowKit
def Popped (w:World) (base g:Nat) (v:Value) (l:List Blk) (b:Blk) (w':World):Prop :=
 ∃ l' v',(b :: l').Perm l∧(∀ c ∈ l',Lq b c)∧HeapFrom l' l'.length 0∧Waits w base g v l' v' w'
theorem heap_swapped {l:List Blk} {n:Nat} (h:HeapFrom l l.length 0) (hn:l.length=n+1):HeapFrom (swp2 l 0 n) n 1:=fun j c hj hc hcn=>by
 rw [nth_swp2 (by omega) (by omega),nth_swp2 (by omega) (by omega),if_neg (by omega),if_neg (by omega),if_neg (by omega),if_neg (by omega)]
 exact h j c (Nat.zero_le _) hc (by omega)
theorem popped_of {w w1 w2 w3:World} {base g n:Nat} {v v':Value} {l l2:List Blk} (h:HeapFrom l l.length 0) (hn:l.length=n+1) (h1:Waits w base g v (swp2 l 0 n) v w1) (hp:l2.Perm (swp2 l 0 n)) (hs : ∀ j,n≤j→nth l2 j=nth (swp2 l 0 n) j)
  (hh:HeapFrom l2 n 0) (h2:Waits w1 base g v l2 v w2) (h3:Waits w2 base g v (l2.take n) v' w3):nth l2 n=nth l 0∧Popped w base g v l (nth l 0) w3:=by
 have e:nth l2 n=nth l 0:=by rw [hs n (Nat.le_refl _),nth_swp2 (by omega) (by omega),if_pos rfl]
 have hl2:l2.length=n+1:=by rw [hp.length_eq,swp2_length];exact hn
 have ht:(l2.take n).length=n:=by rw [List.length_take];omega
 have hperm:(nth l 0 :: l2.take n).Perm l:=by
  have e2:l2.take n ++ [nth l 0]=l2:=by rw [← e];exact take_last hl2
  have:=List.perm_append_comm (l₁ := [nth l 0]) (l₂:=l2.take n)
  rw [List.singleton_append] at this
  refine this.trans ?_
  rw [e2]
  exact hp.trans (swp2_perm (by omega) (by omega))
 refine ⟨e,l2.take n,v',hperm,fun c hc => ?_,?_,(h1.trans h2).trans h3⟩
 ·exact heap_first_mem h (hperm.mem_iff.1 (List.mem_cons_of_mem _ hc))
 ·rw [ht];exact heap_take hh
set_option maxRecDepth 100000 in
set_option maxHeartbeats 4000000 in
theorem hpop_any (base g:Nat) (v:Value) (l:List Blk) (n:Nat) (w:World) (h:QAt w base g v l) (hn:l.length=n+1) (hl:n+1≤1000) (hh:HeapFrom l l.length 0) :
  Calls Tryz.prog 178 #[qi g] w fun e w'=>e = .returned (.iface 57 (bval (nth l 0)))∧Popped w base g v l (nth l 0) w':=by
 have mL:=run_iLen g
 have mS:=run_iSwap g
 have mP:=run_iPop g
 have S1:=qLen_any base g v l w h
 rw [hn] at S1
 have hi:qi g = .iface 201 (qv g):=rfl
 have S3:=fun (W:World) (hq:QAt W base g v (swp2 l 0 n))=>down_any base g v (swp2 l 0 n) 0 n W hq (by rw [swp2_length];omega) (by rw [swp2_length];omega) (by omega) (heap_swapped hh hn)
 rw [hi] at S3
 clear hi
 unfold qi
 have H:=Lib.hid h
 have HN:=Lib.hid hn
 have HH:=Lib.hid hh
 have e1:((n+1:Nat):Int) - 1=(n:Int):=by omega
 clear h hn hh
 go_enter Tryz.func178,Tryz.ntmps178
 go_wp2_with (first | (go_at_call 182;refine S1.mono ?_;rintro e w1 ⟨rfl,G1⟩) | (go_at_call 286;refine (qSwap_any base g v l 0 n w1 (H.out.below G1.below) (by have:=HN.out;omega) (by have:=HN.out;omega)).mono ?_;rintro e w2 ⟨rfl,hw2⟩) | (go_at_call 229;refine (S3 w2 hw2.1).mono ?_;rintro e w3 ⟨⟨rv,rfl⟩,l2,hp3,hs3',hh3,hw3⟩;have hs3:=Lib.hid hs3';clear hs3') | (go_at_call 284;refine (qPop_any base g v l2 n w3 hw3.1 (by rw [hp3.length_eq,swp2_length];exact HN.out) (by omega)).mono ?_;rintro e w4 ⟨rfl,v',hw4⟩))
 go_ret
 obtain ⟨e2,e3⟩:=popped_of HH.out HN.out ((H.out.waits G1.below).trans hw2) hp3 hs3.out hh3 hw3 hw4
 exact ⟨by rw [← e2];rfl,e3⟩
set_option maxRecDepth 100000 in
set_option maxHeartbeats 4000000 in
theorem hpush_any (base g:Nat) (v:Value) (l:List Blk) (b:Blk) (w:World) (h:QAt w base g v l) (hl:l.length≤1000) (hb:base≤w.heap.size) (hh:HeapFrom l l.length 0) :
  Calls Tryz.prog 181 #[qi g, .iface 57 (bval b)] w fun e w'=>e = .returned (.tuple #[]) ∧ ∃ l' v',Made w base g v (l ++ [b]) l' v' w':=by
 have mL:=run_iLen g
 have mP:=run_iPush g
 have S1:=qPush_any base g v l b w h hl hb
 obtain ⟨n,hn⟩ : ∃ n,n=l.length:=⟨_,rfl⟩
 have hlen:(l ++ [b]).length=n+1:=by rw [List.length_append,hn];rfl
 have S2:=fun (W:World) (v':Value) (hq:QAt W base g v' (l ++ [b]))=>qLen_any base g v' (l ++ [b]) W hq
 rw [hlen] at S2
 have hi:qi g = .iface 201 (qv g):=rfl
 have S3:=fun (W:World) (v':Value) (hq:QAt W base g v' (l ++ [b]))=>up_any base g v' (l ++ [b]) n W hq (by rw [hlen];omega) (by rw [hlen];omega) (by rw [hn];exact heapUp_push hh b)
 rw [hi] at S3
 clear hi
 unfold qi
 have e1:((n+1:Nat):Int) - 1=(n:Int):=by omega
 have hn1:n≤1000:=by omega
 clear h hn hh hlen
 go_enter Tryz.func181,Tryz.ntmps181
 go_wp2_with (first | (go_at_call 285;refine S1.mono ?_;rintro e w1 ⟨rfl,v1,hw1⟩) | (go_at_call 182;refine (S2 w1 v1 hw1.1).mono ?_;rintro e w2 ⟨rfl,G2⟩) | (go_at_call 231;refine (S3 w2 v1 (hw1.1.below G2.below)).mono ?_;rintro e w3 ⟨rfl,l3,hp3,hh3,hw3⟩))
 go_end0
 exact ⟨rfl,l3,v1,hp3,hh3,(hw1.below G2.below).trans hw3⟩
end Go.Proofs.YtcodpnbemdflcaaGreatDoor
namespace Go.Proofs.YtcodpnbemdflcaaGreatDoor
open Go.RowKit
theorem Popped.keeps {w w1:World} {base g:Nat} {v:Value} {l:List Blk} {b:Blk} (h:Popped w base g v l b w1) {k:Nat} (hk:k < w.heap.size) (hg:k≠g) (hv:v.ownBlock≠some k):w1.heap[k]? = w.heap[k]? := by
 obtain ⟨l',v',_,_,_,h4⟩:=h
 exact h4.2.block k hk hg hv
theorem Waits.beside {w W w1 w2:World} {base g r:Nat} {v v':Value} {l:List Blk} (hB:Below w.heap.size w W) (h:Waits W base g v l v' w1) (hr:w.heap.size≤r) (hrW:r < W.heap.size) (hg:r≠g) (hv:v.ownBlock≠some r) (h2:w1.grownBy w2 (some r)):Waits w base g v l v' w2:=by
 have hv':v'.ownBlock≠some r:=by
  rcases h.2.own with e | ⟨k,e,hk⟩
  ·rw [e];exact hv
  ·rw [e];intro e2;injection e2 with e2;omega
 have hs:=hB.size
 have hs1:=h.2.size
 refine ⟨⟨h.1.at_.grown h2 (fun e=>hg e.symm),h.1.own.grown h2 (fun k hk=>by rintro e;injection e with e;exact hv' (e ▸ hk)),h.1.lo⟩,?_⟩
 refine ⟨h2.os.trans (h.2.os.trans hB.os),h2.tape.trans (h.2.tape.trans hB.tape),h2.output.trans (h.2.output.trans hB.output),Nat.le_trans hs (Nat.le_trans hs1 h2.size),fun k hk hkg hkv => ?_,?_⟩
 ·rw [h2.block k (by omega) (by intro e;injection e with e;omega),h.2.block k (by omega) hkg hkv,hB.block k hk]
 ·rcases h.2.own with e | ⟨k,e,hk⟩
  ·exact .inl e
  ·exact .inr ⟨k,e,by omega⟩
theorem Popped.beside {w W w1 w2:World} {base g r:Nat} {v:Value} {l:List Blk} {b:Blk} (hB:Below w.heap.size w W) (h:Popped W base g v l b w1) (hr:w.heap.size≤r) (hrW:r < W.heap.size) (hg:r≠g) (hv:v.ownBlock≠some r) (h2:w1.grownBy w2 (some r)):Popped w base g v l b w2:=by
 obtain ⟨l',v',e1,e2,e3,h4⟩:=h
 exact ⟨l',v',e1,e2,e3,h4.beside hB hr hrW hg hv h2⟩
theorem kept_cells {w:World} {r:Nat} {x y:Value} {t:TypeId} (h:Whole w r t [x,y]):(∀ o,(w.alloc o).cell? ⟨r,0,none⟩=some x)∧(∀ o,(w.alloc o).cell? ⟨r,1,none⟩=some y) ∧ ∀ o j,(w.alloc o).frozen? ⟨r,j,none⟩=false :=
 ⟨fun o=>(h.alloc o).cell 0,fun o=>(h.alloc o).cell 1,fun o j=>(h.alloc o).free j⟩
theorem qi_open (g:Nat):qi g = .iface 201 (.agg #[.pointer (some ⟨g,0,none⟩),mSize,mLess,mSwap,mPush,mPop]):=rfl
set_option maxRecDepth 100000 in
set_option maxHeartbeats 2000000 in
theorem qnext_any (base g:Nat) (v:Value) (l:List Blk) (n:Nat) (w:World) (h:QAt w base g v l) (hn:l.length=n+1) (hl:n+1≤1000) (hh:HeapFrom l l.length 0) :
  Calls Tryz.prog 127 #[qv g] w fun e w'=>e = .returned (bval (nth l 0))∧Popped w base g v l (nth l 0) w':=by
 have hB:=fun o o'=>((Below.refl w.heap.size w).alloc (Nat.le_refl _) o).alloc (by simp) o'
 have S:=fun o o'=>hpop_any base g v l n _ (h.below (hB o o')) hn hl hh
 have hA:=run_assert
 obtain ⟨⟨x,o⟩,hx⟩ : ∃ x,x=nth l 0:=⟨_,rfl⟩
 rw [← hx] at S ⊢
 rw [qi_open] at S
 have HB:=Lib.hid hB
 have HK:=Lib.hid (fun (o:Obj)=>show Whole ((w.alloc o).alloc (.cells #[.int .i64 0, .int .i64 0] 57)) (w.heap.size+1) 57 [.int .i64 0, .int .i64 0] from by
  have:=Whole.new (w.alloc o) #[.int .i64 0, .int .i64 0] 57
  simpa using this)
 have HG:=Lib.hid (show g < w.heap.size ∧ ∀ k,v.ownBlock=some k→k < w.heap.size from ⟨h.at_.lt,fun k hk=>(h.own.lt k hk).2⟩)
 clear h hx hB
 unfold bval enc2 at *
 simp only at *
 unfold qv qcs
 go_enter Tryz.func127,Tryz.ntmps127
 go_wp2_with (go_at_call 178;refine (S _ _).mono ?_;rintro e w1 ⟨rfl,hp⟩;have W1:=Lib.hid ((HK.out _).keep (hp.keeps (k:=w.heap.size+1) (by simp) (by have:=HG.out.1;omega) (fun e=>by have:=HG.out.2 _ e;omega)));obtain ⟨c0,c1,f0⟩:=kept_cells W1.out)
 have W2:=((W1.out.alloc (.cells #[.int .i64 x, .int .i64 o] 57)).set 0 (.int .i64 x)).set 1 (.int .i64 o)
 have G2:=grown_trans (grown_trans (grown_below ((Below.refl w1.heap.size w1).alloc (Nat.le_refl _) (.cells #[.int .i64 x, .int .i64 o] 57)) (some (w.heap.size+1))) (grown_set _ (w.heap.size+1) 0 (.int .i64 x))) (grown_set _ (w.heap.size+1) 1 (.int .i64 o))
 refine bodyPost_ret (results_box (b:=(x,o)) rfl _ _ (w.heap.size+1) rfl (W2.cell 0) (W2.cell 1)) rfl ?_
 exact ⟨rfl,hp.beside (HB.out _ _) (by omega) (by simp) (by have:=HG.out.1;omega) (fun e=>by have:=HG.out.2 _ e;omega) G2⟩
set_option maxRecDepth 100000 in
set_option maxHeartbeats 2000000 in
theorem qadd_any (base g:Nat) (v:Value) (l:List Blk) (b:Blk) (w:World) (h:QAt w base g v l) (hl:l.length≤1000) (hb:base≤w.heap.size) (hh:HeapFrom l l.length 0) :
  Calls Tryz.prog 134 #[qv g,bval b] w fun e w'=>e = .returned (.tuple #[]) ∧ ∃ l' v',Made w base g v (l ++ [b]) l' v' w':=by
 have hB:=fun o o'=>((Below.refl w.heap.size w).alloc (Nat.le_refl _) o).alloc (by simp) o'
 have S:=fun o o'=>hpush_any base g v l b _ (h.below (hB o o')) hl (Nat.le_trans hb (hB o o').size) hh
 rw [qi_open] at S
 obtain ⟨x,o⟩:=b
 have HB:=Lib.hid hB
 clear h hB
 unfold bval enc2 at *
 simp only at *
 unfold qv qcs
 go_enter Tryz.func134,Tryz.ntmps134
 go_wp2_with (go_at_call 181;refine (S _ _).mono ?_;rintro e w1 ⟨rfl,l',v',h1,h2,h3⟩)
 go_end0
 exact ⟨rfl,l',v',h1,h2,h3.1,(QStep.of_below (HB.out _ _) g v).trans h3.2⟩
set_option maxHeartbeats 400000 in
theorem byOrder_any (w:World):Calls Tryz.prog 176 #[] w (Says w (.agg #[mSize,mLess,mSwap,mPush,mPop])):=by
 have W1:=Whole.new w #[mSize,mLess,mSwap,mPush,mPop] 199
 unfold mSize mSwap mPush mPop mLess at *
 go_enter Tryz.func176,Tryz.ntmps176
 go_wp2
 refine bodyPost_ret (results_cell_row rfl _ _ w.heap.size 199 _ (0,0) _ rfl W1 Tryz.underlying199 rfl (by kernel_rfl)) rfl ?_
 exact ⟨rfl,grew_one w _⟩
set_option maxRecDepth 100000 in
set_option maxHeartbeats 400000 in
theorem clone_any (A:Option Addr) (n c:Nat) (l:List Blk) (w:World) (h:RdS w A n l) (hn:n≤1000) :
  Calls Tryz.prog 42 #[.slice A n c] w fun e w' => ∃ v,e = .returned v∧OwnB 57 w' w.heap.size v l∧Below w.heap.size w w':=by
 cases A with
 | none =>
  have h0:n=0:=by
   rcases Nat.eq_zero_or_pos n with h0 | h0
   ·exact h0
   ·obtain ⟨_,_,e,_⟩:=h.at_ h0
    cases e
  subst h0
  obtain rfl:l = []:=List.eq_nil_of_length_eq_zero h.len
  have q : ∀ W:World,(binOp .eql 26 (.slice none 0 c) (.slice none 0 0)).run Tryz.prog W = .ok (.bool true) W:=fun W=>run_isnil W _ _ _ _ _ Tryz.underlying26
  go_enter Tryz.func42,Tryz.ntmps42
  go_wp2
  go_ret
  exact ⟨_,rfl,OwnB.nil,Below.refl _ _⟩
 | some a =>
  have hB:=(Below.refl w.heap.size w).alloc (Nat.le_refl _) (.cells #[] 57)
  have ho:OwnB 57 (w.alloc (.cells #[] 57)) w.heap.size (.slice (some ⟨w.heap.size,0,none⟩) 0 0) []:=⟨rfl, .inr ⟨w.heap.size,0, #[],rfl,Nat.le_refl _,heap_alloc_new w _,Nat.le_refl _,by simp [maxLen],rfl,rfl⟩⟩
  obtain ⟨v',w',hap,happ⟩:=run_appB (P:=Tryz.prog) w.heap.size 26 26 57 Tryz.underlying26 Tryz.infoBlk rfl _ [] ho (some a) n c l (h.below hB) (by simp;omega) hB.size
  rw [List.nil_append] at happ
  have hb2:=happ.below ho (Nat.le_refl _) hB.size hB
  have Ho:=Lib.hid happ.1
  have q : ∀ W:World,(binOp .eql 26 (.slice (some a) n c) (.slice none 0 0)).run Tryz.prog W = .ok (.bool false) W:=fun W=>run_isnil W _ _ _ _ _ Tryz.underlying26
  clear h happ ho
  go_enter Tryz.func42,Tryz.ntmps42
  go_wp2_with (at_builtin;refine wpList_append_run hap rfl _ _ rfl rfl rfl rfl ?_)
  go_ret
  exact ⟨_,rfl,Ho.out,hb2⟩
def Queued (w:World) (l:List Blk) (e:Ending) (w':World):Prop :=
 ∃ g v l',e = .returned (qv g)∧QAt w' w.heap.size g v l'∧l'.Perm l∧HeapFrom l' l'.length 0∧Below w.heap.size w w'
set_option maxHeartbeats 2000000 in
set_option maxRecDepth 100000 in
theorem wait_any (A:Option Addr) (n c:Nat) (l:List Blk) (w:World) (h:RdS w A n l) (hn:n≤1000) :
  Calls Tryz.prog 126 #[.slice A n c] w (Queued w l):=by
 have hlen:=h.len
 have S1:=fun o=>clone_any A n c l _ (h.below ((Below.refl _ _).alloc (Nat.le_refl _) o)) hn
 clear h
 have S2:=byOrder_any
 unfold mSize mLess mSwap mPush mPop at S2
 go_enter Tryz.func126,Tryz.ntmps126
 go_wp2_with (first | (go_at_call 42;refine (S1 _).mono ?_;rintro e w1 ⟨v,rfl,ho,hb⟩;obtain ⟨A1,c1,rfl,_⟩:=ho.shape rfl) | (go_at_call 176;refine (S2 _).mono ?_;rintro e w2 ⟨rfl,G2⟩))
 have s0:=(Below.refl w.heap.size w).alloc (Nat.le_refl _) (.cells #[.pointer none, .nilFunc, .nilFunc, .nilFunc, .nilFunc, .nilFunc] 201)
 have R0:Whole w1 w.heap.size 201 [.pointer none, .nilFunc, .nilFunc, .nilFunc, .nilFunc, .nilFunc]:=(Whole.new w _ _).below hb
 have R1:=((R0.alloc (.cells #[.slice A1 n c1] 207)).below G2.below).alloc (.cells #[.pointer (some ⟨w1.heap.size,0,none⟩),mSize,mLess,mSwap,mPush,mPop] 201)
 have G1:=((Whole.new w1 #[.slice A1 n c1] 207).below G2.below).alloc (.cells #[.pointer (some ⟨w1.heap.size,0,none⟩),mSize,mLess,mSwap,mPush,mPop] 201)
 have hz0:(w.alloc (.cells #[.pointer none, .nilFunc, .nilFunc, .nilFunc, .nilFunc, .nilFunc] 201)).heap.size=w.heap.size+1:=by simp
 rw [hz0] at ho
 have O1:=(ho.below ((Below.refl _ _).alloc (Nat.le_refl _) (.cells #[.slice A1 n c1] 207))).below G2.below
 have Q1:=Whole.new w2 #[.pointer (some ⟨w1.heap.size,0,none⟩),mSize,mLess,mSwap,mPush,mPop] 201
 have hg1:w.heap.size < w1.heap.size:=Nat.lt_of_lt_of_le (by simp) hb.size
 have hg2:w1.heap.size < w2.heap.size:=Nat.lt_of_lt_of_le (by simp) G2.below.size
 generalize hw3:w2.alloc (.cells #[.pointer (some ⟨w1.heap.size,0,none⟩),mSize,mLess,mSwap,mPush,mPop] 201)=w3 at R1 G1 Q1
 have O2:OwnB 57 w3 w.heap.size (.slice A1 l.length c1) l:=by rw [← hw3];exact (O1.mono (by omega)).below ((Below.refl _ _).alloc (Nat.le_refl _) _)
 have B3:Below w.heap.size w w3:=by
  rw [← hw3]
  have b1:=((s0.trans (hb.mono s0.size)).alloc (by omega) (.cells #[.slice A1 n c1] 207)).trans (G2.below.mono (by simp;omega))
  exact b1.alloc (by omega) _
 have z3:w3.heap.size=w2.heap.size+1:=by rw [← hw3];simp
 rw [hlen] at O2
 have O3:=O1.lt
 rw [hlen] at O3
 have QA:QAt w3 w.heap.size w1.heap.size (.slice A1 n c1) l:=⟨G1,O2,by omega⟩
 have T:=init_any w.heap.size w1.heap.size _ l w3 QA (by omega)
 rw [qi_open] at T
 unfold mSize mLess mSwap mPush mPop at T hw3 Q1
 rw [hw3]
 refine T.mono ?_
 rintro e w4 ⟨rfl,l4,hp,hh,hq4,hs4⟩
 have K1:=Q1.keep (hs4.block w2.heap.size (by omega) (by omega) (fun e=>by have:=O3 _ e;omega))
 have K2:=R1.keep (hs4.block w.heap.size (by omega) (by omega) (fun e=>by have:=O3 _ e;omega))
 have c0:=K1.cell 0
 have c1':=K1.cell 1
 have c2:=K1.cell 2
 have c3:=K1.cell 3
 have c4:=K1.cell 4
 have c5:=K1.cell 5
 have d0:=K2.cell 0
 have d1:=K2.cell 1
 have d2:=K2.cell 2
 have d3:=K2.cell 3
 have d4:=K2.cell 4
 have d5:=K2.cell 5
 have f:=K2.free
 have HK:=Lib.hid K2
 have HQ:=Lib.hid hq4
 have HS:=Lib.hid hs4
 have HB:=Lib.hid B3
 have HH:=Lib.hid hh
 have HO:=Lib.hid O3
 have HA:=Lib.hid QA
 clear K1 K2 hq4 hs4 B3 hh R0 R1 G1 Q1 QA T O1 O2 O3 s0 ho hb
 go_wp2
 have WF := (((((HK.out.set 0 (.pointer (some ⟨w1.heap.size, 0, none⟩))).set 1 (.func (.methodOf 192 "tumulus/buddy.size") #[] #[])).set 2 (.func (.func 225) #[] #[])).set 3 (.func (.methodOf 192 "tumulus/buddy.swap") #[] #[])).set 4 (.func (.methodOf 192 "tumulus/buddy.push") #[] #[])).set 5 (.func (.methodOf 192 "tumulus/buddy.pop") #[] #[])
 have GF := grown_trans (grown_trans (grown_trans (grown_trans (grown_trans (grown_set w4 w.heap.size 0 (.pointer (some ⟨w1.heap.size, 0, none⟩))) (grown_set _ w.heap.size 1 (.func (.methodOf 192 "tumulus/buddy.size") #[] #[]))) (grown_set _ w.heap.size 2 (.func (.func 225) #[] #[]))) (grown_set _ w.heap.size 3 (.func (.methodOf 192 "tumulus/buddy.swap") #[] #[]))) (grown_set _ w.heap.size 4 (.func (.methodOf 192 "tumulus/buddy.push") #[] #[]))) (grown_set _ w.heap.size 5 (.func (.methodOf 192 "tumulus/buddy.pop") #[] #[]))
 refine bodyPost_ret (results_cell_row rfl _ _ w.heap.size 201 _ (0,0) _ rfl WF Tryz.underlying201 rfl (by kernel_rfl)) rfl ?_
 have BF:=below_grown (HB.out.trans (HS.out.below HA.out (Nat.le_refl _))) GF (Nat.le_trans HB.out.size HS.out.size) (Nat.le_refl _)
 exact ⟨w1.heap.size,_,l4,rfl,⟨HQ.out.at_.grown GF (by omega),HQ.out.own.grown GF (fun k hk=>by have:=HO.out k hk;intro e;injection e with e;omega),HQ.out.lo⟩,hp,HH.out,BF⟩
end Go.Proofs.YtcodpnbemdflcaaGreatDoor

/-
  A heap in memory of its own, by the document: contract.
  A word, a link, a handle of an object of the call's own is written over. Plain lemmas over any program.
  slices.Clone at blocks, integers and objects: contracts.
  When a heap is right, by blocks that lie side by side: plain mathematics, no program.
  The place of an object, found by halves; whether a link may be a handle: contracts.
  The place of an object; whether a link may be a handle; whether all of a row may be: contracts.
  What an object needs; whether its block fits; whether the objects rise, each with a block of its order: contracts.
-/
import Derived.Test.YtcodpnbemdflcaaGreatDoorTg17
import Derived.Test.YtcodpnbemdflcaaGreatDoorTg8
import Derived.Shelf.SlicesE.Clone
import Derived.Test.YtcodpnbemdflcaaGreatDoorTg15
import Derived.Test.YtcodpnbemdflcaaGreatDoorTg16
import Derived.Lib.MinMax
namespace Go.Proofs.YtcodpnbemdflcaaGreatDoor
open Go.RowKit
theorem Tryz.infoOb:(Tryz.prog.info? 60).map (fun i=>(i.zero,i.size,i.bytes))=some (some (.agg #[.int .i64 0, .int .i64 0, .int .i64 0, .slice none 0 0, .slice none 0 0]),5,72):=by kernel_rfl
theorem Tryz.infoInt:(Tryz.prog.info? 3).map (fun i=>(i.zero,i.size,i.bytes))=some (some (.int .i64 0),1,8):=by kernel_rfl
structure OwnHp (w:World) (base:Nat) (s:HSl) (os:List (Ob × OSl)) (H:Hp):Prop where
 objs:OwnOs 60 3 w base (.slice s.A s.n s.c) os
 obs:H.obs=os.map (·.1)
 free:OwnB 57 w base (.slice s.F s.m s.d) H.fr
 tp:H.tp.length=4
 nx:H.nx≤9223372036854775807
theorem OwnHp.rd {w:World} {base:Nat} {s:HSl} {os:List (Ob × OSl)} {H:Hp} (h:OwnHp w base s os H):RdH w s H:=by
 obtain ⟨A,c,hv,hr⟩:=h.objs.rd
 obtain ⟨F,d,hf,hfr⟩:=h.free.rd
 injection hv with e1 e2 e3
 injection hf with f1 f2 f3
 exact ⟨by rw [e1,e2,h.obs];exact hr,by rw [f1,f2];exact hfr,h.tp,h.nx⟩
theorem OwnHp.below {w w':World} {base:Nat} {s:HSl} {os:List (Ob × OSl)} {H:Hp} (h:OwnHp w base s os H) (b:Below w.heap.size w w'):OwnHp w' base s os H:=⟨h.objs.below b,h.obs,h.free.below b,h.tp,h.nx⟩
theorem OwnHp.mono {w:World} {base base':Nat} {s:HSl} {os:List (Ob × OSl)} {H:Hp} (h:OwnHp w base s os H) (b:base'≤base):OwnHp w base' s os H:=⟨h.objs.mono b,h.obs,h.free.mono b,h.tp,h.nx⟩
def zcs:List Value := [.int .i64 0, .slice none 0 0, .int .i64 0, .int .i64 0, .int .i64 0, .int .i64 0, .int .i64 0, .slice none 0 0]
theorem grown_set8 (w:World) (g:Nat) (a0 a1 a2 a3 a4 a5 a6 a7:Value):w.grownBy ((((((((w.setCell ⟨g,0,none⟩ a0).setCell ⟨g,1,none⟩ a1).setCell ⟨g,2,none⟩ a2).setCell ⟨g,3,none⟩ a3).setCell ⟨g,4,none⟩ a4).setCell ⟨g,5,none⟩ a5).setCell ⟨g,6,none⟩ a6).setCell ⟨g,7,none⟩ a7) (some g) :=
 grown_trans (grown_trans (grown_trans (grown_trans (grown_trans (grown_trans (grown_trans (grown_set _ g 0 a0) (grown_set _ g 1 a1)) (grown_set _ g 2 a2)) (grown_set _ g 3 a3)) (grown_set _ g 4 a4)) (grown_set _ g 5 a5)) (grown_set _ g 6 a6)) (grown_set _ g 7 a7)
theorem nodup_two {a b:Option Nat} (h : ∀ i j,a=some i→b=some j→i≠j):(a.toList++b.toList).Nodup:=by
 cases a <;> cases b <;> simp
 exact h _ _ rfl rfl
end Go.Proofs.YtcodpnbemdflcaaGreatDoor
namespace Go.Proofs.YtcodpnbemdflcaaGreatDoor
open Go.RowKit
theorem ivs_set (l:List Int) (j:Nat) (t:Int):(ivs l).set j (.int .i64 t)=ivs (l.set j t):=by
 unfold ivs
 rw [List.map_set]
theorem OwnV.setI {I:TypeId} {w:World} {base g n c:Nat} {l:List Int} (hn:l.length=n) (h:OwnV I w base (.slice (some ⟨g,0,none⟩) n c) (ivs l)) (j:Nat) (t:Int) :
  OwnV I (w.setCell ⟨g,j,none⟩ (.int .i64 t)) base (.slice (some ⟨g,0,none⟩) n c) (ivs (l.set j t)):=by
 unfold OwnV at h ⊢
 rw [ivs_length,hn] at h
 rw [ivs_length,List.length_set,hn, ← ivs_set]
 exact (World.ownsRow.stored h j _).1
section
variable {U I:TypeId} {w:World} {base:Nat} {v:Value} {os:List (Ob × OSl)}
theorem OwnOs.other (h:OwnOs U I w base v os) {i i':Nat} {p q:Ob × OSl} (hp:os[i]? = some p) (hq:os[i']? = some q) (hne:i≠i') : ∀ k ∈ twoB p.2,k ∉ twoB q.2:=by
 have hap:=h.apart
 unfold blocksOf List.Nodup at hap
 rw [List.pairwise_flatMap] at hap
 obtain ⟨h1,h2⟩:=List.getElem?_eq_some_iff.1 hp
 obtain ⟨h3,h4⟩:=List.getElem?_eq_some_iff.1 hq
 intro k hk hk'
 rcases Nat.lt_or_gt_of_ne hne with e | e
 ·have:=List.pairwise_iff_getElem.1 hap.2 i i' h1 h3 e
  rw [h2,h4] at this
  exact this k hk k hk' rfl
 ·have:=List.pairwise_iff_getElem.1 hap.2 i' i h3 h1 e
  rw [h2,h4] at this
  exact this k hk' k hk rfl
theorem OwnOs.same (h:OwnOs U I w base v os) {p:Ob × OSl} (hp:p ∈ os) {k:Nat} (h1:p.2.wv.ownBlock=some k):p.2.lv.ownBlock≠some k:=by
 have hap:=h.apart
 unfold blocksOf List.Nodup at hap
 rw [List.pairwise_flatMap] at hap
 have:=hap.1 p hp
 unfold twoB at this
 rw [h1] at this
 intro e
 rw [e] at this
 simp at this
theorem set_mem {i:Nat} {p q:Ob × OSl} (hq:q ∈ os.set i p) (hi:i < os.length):q=p ∨ ∃ i',i'≠i∧os[i']? = some q:=by
 obtain ⟨j,hj,e⟩:=List.getElem_of_mem hq
 by_cases hji:j=i
 ·subst hji
  rw [List.getElem_set_self] at e
  exact .inl e.symm
 ·rw [List.getElem_set_ne (by omega)] at e
  exact .inr ⟨j,hji,by rw [List.length_set] at hj;rw [List.getElem?_eq_getElem hj,e]⟩
theorem blocksOf_set {i:Nat} {p:Ob × OSl} {x:Ob} (hp:os[i]? = some p):blocksOf (os.set i (x,p.2))=blocksOf os:=by
 unfold blocksOf
 rw [List.flatMap_def,List.flatMap_def]
 congr 1
 rw [List.map_set]
 obtain ⟨h1,h2⟩:=List.getElem?_eq_some_iff.1 hp
 simp only
 rw [← h2, ← List.getElem_map (fun p:Ob × OSl=>twoB p.2) (h:=by simpa using h1),List.set_getElem_self]
theorem ocs_set {i:Nat} {p:Ob × OSl} {x:Ob} (hp:os[i]? = some p) (h1:x.hd=p.1.hd) (h2:x.bl=p.1.bl):ocs (os.set i (x,p.2))=ocs os:=by
 unfold ocs
 rw [List.flatMap_def,List.flatMap_def]
 congr 1
 rw [List.map_set]
 obtain ⟨k1,k2⟩:=List.getElem?_eq_some_iff.1 hp
 have:oc (x,p.2)=oc p:=by unfold oc;simp only [h1,h2]
 rw [this, ← k2, ← List.getElem_map oc (h:=by simpa using k1),List.set_getElem_self]
theorem OwnOs.setW (h:OwnOs U I w base v os) (hUI:U≠I) {i j g n c:Nat} {p:Ob × OSl} (hp:os[i]? = some p) (hw:p.2.wv = .slice (some ⟨g,0,none⟩) n c) (hn:p.1.ws.length=n) (t:Int) :
  OwnOs U I (w.setCell ⟨g,j,none⟩ (.int .i64 t)) base v (os.set i ({ p.1 with ws:=p.1.ws.set j t },p.2)):=by
 have hpm:=List.mem_of_getElem? hp
 have hi:=(List.getElem?_eq_some_iff.1 hp).1
 have hg:=grown_set w g j (.int .i64 t)
 have hwb:p.2.wv.ownBlock=some g:=by rw [hw];rfl
 have hgb:g ∈ twoB p.2:=mem_two.2 (.inl hwb)
 have hgm:g ∈ blocksOf os:=mem_blocks.2 ⟨p,hpm, .inl hwb⟩
 refine ⟨?_,fun q hq => ?_,by rw [blocksOf_set hp];exact h.apart⟩
 ·rw [List.length_set,ocs_set (x := { p.1 with ws:=p.1.ws.set j t }) hp rfl rfl]
  exact row_keep h.row fun k hk=>hg.block k (h.row_lt k hk).2 fun e=>by injection e with e;subst e;exact h.row_ne hUI _ hgm hk
 ·rcases set_mem hq hi with e | ⟨i',hne,hq'⟩
  ·subst e
   have h1:=h.ints p hpm
   refine ⟨?_,h1.2.keep fun k hk=>hg.block k (h1.2.lt k hk).2 fun e=>by injection e with e;subst e;exact h.same hpm hwb hk⟩
   simp only
   have h2:=h1.1
   rw [hw] at h2 ⊢
   exact h2.setI hn j t
  ·have h1:=h.ints q (List.mem_of_getElem? hq')
   have hno:=h.other hp hq' (fun e=>hne e.symm) g hgb
   exact ⟨h1.1.keep fun k hk=>hg.block k (h1.1.lt k hk).2 fun e=>by injection e with e;subst e;exact hno (mem_two.2 (.inl hk)),
    h1.2.keep fun k hk=>hg.block k (h1.2.lt k hk).2 fun e=>by injection e with e;subst e;exact hno (mem_two.2 (.inr hk))⟩
theorem OwnOs.setL (h:OwnOs U I w base v os) (hUI:U≠I) {i j g n c:Nat} {p:Ob × OSl} (hp:os[i]? = some p) (hw:p.2.lv = .slice (some ⟨g,0,none⟩) n c) (hn:p.1.ls.length=n) (t:Int) :
  OwnOs U I (w.setCell ⟨g,j,none⟩ (.int .i64 t)) base v (os.set i ({ p.1 with ls:=p.1.ls.set j t },p.2)):=by
 have hpm:=List.mem_of_getElem? hp
 have hi:=(List.getElem?_eq_some_iff.1 hp).1
 have hg:=grown_set w g j (.int .i64 t)
 have hwb:p.2.lv.ownBlock=some g:=by rw [hw];rfl
 have hgb:g ∈ twoB p.2:=mem_two.2 (.inr hwb)
 have hgm:g ∈ blocksOf os:=mem_blocks.2 ⟨p,hpm, .inr hwb⟩
 refine ⟨?_,fun q hq => ?_,by rw [blocksOf_set hp];exact h.apart⟩
 ·rw [List.length_set,ocs_set (x := { p.1 with ls:=p.1.ls.set j t }) hp rfl rfl]
  exact row_keep h.row fun k hk=>hg.block k (h.row_lt k hk).2 fun e=>by injection e with e;subst e;exact h.row_ne hUI _ hgm hk
 ·rcases set_mem hq hi with e | ⟨i',hne,hq'⟩
  ·subst e
   have h1:=h.ints p hpm
   refine ⟨h1.1.keep fun k hk=>hg.block k (h1.1.lt k hk).2 fun e=>by injection e with e;subst e;exact h.same hpm hk hwb,?_⟩
   simp only
   have h2:=h1.2
   rw [hw] at h2 ⊢
   exact h2.setI hn j t
  ·have h1:=h.ints q (List.mem_of_getElem? hq')
   have hno:=h.other hp hq' (fun e=>hne e.symm) g hgb
   exact ⟨h1.1.keep fun k hk=>hg.block k (h1.1.lt k hk).2 fun e=>by injection e with e;subst e;exact hno (mem_two.2 (.inl hk)),
    h1.2.keep fun k hk=>hg.block k (h1.2.lt k hk).2 fun e=>by injection e with e;subst e;exact hno (mem_two.2 (.inr hk))⟩
end
end Go.Proofs.YtcodpnbemdflcaaGreatDoor
namespace Go.Proofs.YtcodpnbemdflcaaGreatDoor
open Go.RowKit
set_option maxHeartbeats 1000000 in
theorem cloneB_any (l:List Blk) (A:Option Addr) (n c:Nat) (w:World) (h:RdS w A n l) (hn:n≤10000) :
  Calls Tryz.prog 42 #[.slice A n c] w (GivesB1 w l):=by
 by_cases h0:n=0
 ·subst h0
  obtain rfl:l = []:=List.eq_nil_of_length_eq_zero h.len
  clear h
  cases A with
  | none =>
   have hcon:=AnyE.slices_Clone_nil Tryz.cloneB 0 c w
   exact hcon.mono fun e w' h=>⟨_,h.1,by rw [h.2];exact OwnB.nil,by rw [h.2];exact Below.refl _ _⟩
  | some a =>
   obtain ⟨i0,hi,_⟩:=info_parts Tryz.infoBlk2
   have ho:OwnB 57 (w.alloc (.cells #[] 57)) w.heap.size (.slice (some ⟨w.heap.size,0,none⟩) 0 0) []:=⟨rfl, .inr ⟨_,0, #[],rfl,Nat.le_refl _,Whole.new w #[] 57,Nat.le_refl _,by simp [maxLen],rfl,rfl⟩⟩
   have hap:=fun ty=>run_app_none (P:=Tryz.prog) (ty:=ty) Tryz.underlying26 hi ho (some a) c
   have q:=fun w=>Lib.run_eql_slice_nil (P:=Tryz.prog) w 26 _ (some a) 0 c 0 0 Tryz.underlying26
   have Ho:=Lib.hid ho
   clear ho
   go_enter Tryz.func42,Tryz.ntmps42
   go_wp2_with (at_builtin;refine wpList_append_run (hap _) rfl _ _ rfl rfl rfl rfl ?_)
   go_ret
   exact ⟨_,rfl,Ho.out,(Below.refl _ _).alloc (Nat.le_refl _) _⟩
 ·obtain ⟨b,off,rfl,hb,hc⟩:=h.cells (by omega)
  obtain ⟨i0,hi,hz0,hz1,hz2⟩:=info_parts Tryz.infoBlk2
  have hcon:=AnyE.slices_Clone Tryz.cloneB i0 _ 2 16 hi hz0 hz1 hz2 rfl (by omega) Tryz.sizeOf57 b off n c (bcs l) w (by rw [bcs_length,h.len]) (by simp only [maxLen];omega) (by omega) hc (fun u hu=>by
   obtain ⟨x,_,hx⟩:=List.mem_flatMap.1 hu
   simp [enc2] at hx
   rcases hx with rfl | rfl <;> rfl)
  refine hcon.mono fun e w' ⟨v,he,ho,_,hb⟩=>⟨v,he,?_,hb⟩
  unfold OwnB
  rw [h.len]
  exact ho
def GivesI (w:World) (l:List Int) (e:Ending) (w':World):Prop := ∃ v,e = .returned v∧OwnV 3 w' w.heap.size v (ivs l)∧Below w.heap.size w w'
set_option maxHeartbeats 1000000 in
theorem cloneI_any (l:List Int) (A:Option Addr) (n c:Nat) (w:World) (h:RdI w A n l) (hn:n≤10000) :
  Calls Tryz.prog 44 #[.slice A n c] w (GivesI w l):=by
 by_cases h0:n=0
 ·subst h0
  obtain rfl:l = []:=List.eq_nil_of_length_eq_zero h.len
  clear h
  cases A with
  | none =>
   have hcon:=AnyE.slices_Clone_nil Tryz.cloneI 0 c w
   exact hcon.mono fun e w' h=>⟨_,h.1,by rw [h.2];exact OwnV.nil,by rw [h.2];exact Below.refl _ _⟩
  | some a =>
   obtain ⟨i0,hi,_⟩:=info_parts Tryz.infoInt
   have ho:OwnV 3 (w.alloc (.cells #[] 3)) w.heap.size (.slice (some ⟨w.heap.size,0,none⟩) 0 0) []:=⟨by simp, .inr ⟨_,0, #[],rfl,Nat.le_refl _,Whole.new w #[] 3,Nat.le_refl _,by simp [maxLen],by simp,by simp⟩⟩
   have hap:=fun ty=>run_app_none (P:=Tryz.prog) (ty:=ty) Tryz.underlying58 hi ho (some a) c
   have q:=fun w=>Lib.run_eql_slice_nil (P:=Tryz.prog) w 58 _ (some a) 0 c 0 0 Tryz.underlying58
   have Ho:=Lib.hid ho
   clear ho
   go_enter Tryz.func44,Tryz.ntmps44
   go_wp2_with (at_builtin;refine wpList_append_run (hap _) rfl _ _ rfl rfl rfl rfl ?_)
   go_ret
   exact ⟨_,rfl,Ho.out,(Below.refl _ _).alloc (Nat.le_refl _) _⟩
 ·obtain ⟨b,off,rfl,hb,hc⟩:=RdV.at_ h (by omega)
  obtain ⟨i0,hi,hz0,hz1,hz2⟩:=info_parts Tryz.infoInt
  have hcon:=AnyE.slices_Clone Tryz.cloneI i0 _ 1 8 hi hz0 hz1 hz2 rfl (by omega) Tryz.sizeOf3 b off n c (ivs l) w (by rw [ivs_length,h.len];omega) (by simp only [maxLen];omega) (by omega) hc (ivs_one l)
  refine hcon.mono fun e w' ⟨v,he,ho,_,hb⟩=>⟨v,he,?_,hb⟩
  unfold OwnV
  rw [ivs_length,h.len]
  exact ho
structure RdRows (w:World) (p:Ob × OSl):Prop where
 ws : ∃ A n c,p.2.wv = .slice A n c∧RdI w A n p.1.ws
 ls : ∃ A n c,p.2.lv = .slice A n c∧RdI w A n p.1.ls
theorem RdRows.below {w w':World} {p:Ob × OSl} (h:RdRows w p) (hb:Below w.heap.size w w'):RdRows w' p:=by
 obtain ⟨A,n,c,e,h1⟩:=h.ws
 obtain ⟨B,m,d,f,h2⟩:=h.ls
 exact ⟨⟨A,n,c,e,h1.below hb⟩,⟨B,m,d,f,h2.below hb⟩⟩
theorem ocs_at : ∀ {os:List (Ob × OSl)} {j:Nat} {u:Value},(ocs os)[j]? = some u → ∃ p,os[j / 5]? = some p∧(oc p)[j % 5]? = some u
 | [],j,u,h=>by simp [ocs] at h
 | q :: t,j,u,h=>by
  have hc:ocs (q :: t)=oc q++ocs t:=by simp [ocs]
  have hq:(oc q).length=5:=rfl
  rw [hc] at h
  by_cases hj:j < 5
  ·rw [List.getElem?_append_left (by omega)] at h
   exact ⟨q,by rw [show j / 5=0 by omega];rfl,by rw [show j % 5=j by omega];exact h⟩
  ·rw [List.getElem?_append_right (by omega),hq] at h
   obtain ⟨p,h1,h2⟩:=ocs_at h
   exact ⟨p,by rw [show j / 5=(j - 5) / 5+1 by omega];simpa using h1,by rw [show j % 5=(j - 5) % 5 by omega];exact h2⟩
theorem RdO.list {w:World} {A:Option Addr} {n:Nat} {l:List Ob} (h:RdO w A n l) :
  ∃ os:List (Ob × OSl),os.map (·.1)=l∧(∀ p ∈ os,RdRows w p)∧(0 < n → ∃ b off,A=some ⟨b,off,none⟩∧b < w.heap.size ∧ ∀ j u,(ocs os)[j]? = some u→w.cell? ⟨b,off+j,none⟩=some u):=by
 by_cases h0:n=0
 ·subst h0
  exact ⟨[],by rw [List.eq_nil_of_length_eq_zero h.len];rfl,(fun p hp=>by cases hp),fun q=>by omega⟩
 obtain ⟨b,off,e,hb,hc⟩:=h.at_ (by omega)
 have key : ∀ k,k≤l.length → ∃ os:List (Ob × OSl),os.map (·.1)=l.take k∧(∀ p ∈ os,RdRows w p) ∧ ∀ j p i u,os[j]? = some p→(oc p)[i]? = some u→w.cell? ⟨b,off+j*5+i,none⟩=some u:=by
  intro k
  induction k with
  | zero=>intro _;exact ⟨[],by simp,(fun p hp=>by cases hp),fun j p i u hj=>by simp at hj⟩
  | succ k ih =>
   intro hk
   obtain ⟨os,h1,h2,h3⟩:=ih (by omega)
   have hx:l[k]? = some l[k]:=List.getElem?_eq_getElem (by omega)
   obtain ⟨A1,n1,c1,B1,m1,d1,y0,y1,y2,y3,y4,y5,y6⟩:=hc k _ hx
   have hol:os.length=k:=by have:=congrArg List.length h1;rw [List.length_map,List.length_take] at this;omega
   refine ⟨os ++ [(l[k],⟨.slice A1 n1 c1, .slice B1 m1 d1⟩)],by rw [List.map_append,h1,take_snocI hx];rfl,fun p hp => ?_,fun j p i u hj hu => ?_⟩
   ·rcases List.mem_append.1 hp with q | q
    ·exact h2 p q
    ·rw [List.mem_singleton.1 q];exact ⟨⟨A1,n1,c1,rfl,y5⟩,⟨B1,m1,d1,rfl,y6⟩⟩
   ·by_cases hjk:j < k
    ·rw [List.getElem?_append_left (by omega)] at hj
     exact h3 j p i u hj hu
    ·rw [List.getElem?_append_right (by omega),hol] at hj
     have hj0:j=k:=by
      have:=(List.getElem?_eq_some_iff.1 hj).1
      simp at this
      omega
     subst hj0
     simp at hj
     subst hj
     match i,hu with
     | 0,hu=>simp [oc] at hu;rw [← hu];exact y0
     | 1,hu=>simp [oc] at hu;rw [← hu];exact y1
     | 2,hu=>simp [oc] at hu;rw [← hu];exact y2
     | 3,hu=>simp [oc] at hu;rw [← hu];exact y3
     | 4,hu=>simp [oc] at hu;rw [← hu];exact y4
     | i+5,hu=>simp [oc] at hu
 obtain ⟨os,h1,h2,h3⟩:=key l.length (Nat.le_refl _)
 rw [List.take_length] at h1
 refine ⟨os,h1,h2,fun _=>⟨b,off,e,hb,fun j u hu => ?_⟩⟩
 obtain ⟨p,hp,hi⟩:=ocs_at hu
 rw [show off+j=off+j / 5*5+j % 5 by omega]
 exact h3 _ p _ u hp hi
def GivesO (w:World) (os:List (Ob × OSl)) (e:Ending) (w':World):Prop := ∃ v,e = .returned v∧w'.ownsRow w.heap.size 60 5 v os.length (ocs os)∧Below w.heap.size w w'
set_option maxHeartbeats 1000000 in
theorem cloneO_any (os:List (Ob × OSl)) (A:Option Addr) (n c:Nat) (w:World) (hl:os.length=n) (hr : ∀ p ∈ os,RdRows w p) (h:0 < n → ∃ b off,A=some ⟨b,off,none⟩∧b < w.heap.size ∧ ∀ j u,(ocs os)[j]? = some u→w.cell? ⟨b,off+j,none⟩=some u) (hn:n≤10000) :
  Calls Tryz.prog 43 #[.slice A n c] w (GivesO w os):=by
 by_cases h0:n=0
 ·subst h0
  obtain rfl:os = []:=List.eq_nil_of_length_eq_zero hl
  clear h hr hl
  cases A with
  | none =>
   have hcon:=AnyE.slices_Clone_nil Tryz.cloneO 0 c w
   exact hcon.mono fun e w' h=>⟨_,h.1,by rw [h.2];exact World.ownsRow_nil _ _ _ _,by rw [h.2];exact Below.refl _ _⟩
  | some a =>
   obtain ⟨i0,hi,_⟩:=info_parts Tryz.infoOb
   have ho:(w.alloc (.cells #[] 60)).ownsRow w.heap.size 60 5 (.slice (some ⟨w.heap.size,0,none⟩) 0 0) 0 (ocs []):=⟨by simp [ocs], .inr ⟨_,0, #[],rfl,Nat.le_refl _,Whole.new w #[] 60,Nat.le_refl _,by simp [maxLen],by simp,by simp [ocs]⟩⟩
   have hap:=fun ty=>run_app_none (P:=Tryz.prog) (ty:=ty) Tryz.underlying24 hi ho (some a) c
   have q:=fun w=>Lib.run_eql_slice_nil (P:=Tryz.prog) w 24 _ (some a) 0 c 0 0 Tryz.underlying24
   have Ho:=Lib.hid ho
   clear ho
   go_enter Tryz.func43,Tryz.ntmps43
   go_wp2_with (at_builtin;refine wpList_append_run (hap _) rfl _ _ rfl rfl rfl rfl ?_)
   go_ret
   exact ⟨_,rfl,Ho.out,(Below.refl _ _).alloc (Nat.le_refl _) _⟩
 ·obtain ⟨b,off,rfl,hb,hc⟩:=h (by omega)
  obtain ⟨i0,hi,hz0,hz1,hz2⟩:=info_parts Tryz.infoOb
  have hcon:=AnyE.slices_Clone Tryz.cloneO i0 _ 5 72 hi hz0 hz1 hz2 rfl (by omega) Tryz.sizeOf60 b off n c (ocs os) w (by rw [ocs_length,hl]) (by simp only [maxLen];omega) (by omega) hc (fun u hu=>by
   obtain ⟨x,hxm,hx⟩:=List.mem_flatMap.1 hu
   obtain ⟨⟨A1,n1,c1,e1,_⟩,⟨A2,n2,c2,e2,_⟩⟩:=hr x hxm
   simp [oc,e1,e2] at hx
   rcases hx with rfl | rfl | rfl | rfl | rfl <;> rfl)
  refine hcon.mono fun e w' ⟨v,he,ho,_,hb⟩=>⟨v,he,?_,hb⟩
  rw [hl]
  exact ho
end Go.Proofs.YtcodpnbemdflcaaGreatDoor
namespace Go.Proofs.YtcodpnbemdflcaaGreatDoor
open Go.RowKit
def contig:Int→List Blk→Prop
 | _, []=>True
 | s,b :: t=>b.1=s∧contig (s+sz b.2) t
theorem contig_append : ∀ {l m:List Blk} {s:Int},contig s (l++m) ↔ contig s l∧contig (s+sumL l) m
 | [],m,s=>by simp [contig,sumL]
 | b :: t,m,s=>by
  show (b.1=s∧contig (s+sz b.2) (t++m)) ↔ (b.1=s∧contig (s+sz b.2) t)∧contig (s+sumL (b :: t)) m
  rw [contig_append (l:=t),sumL_cons,and_assoc,Int.add_assoc]
theorem contig_one {s:Int} {b:Blk} : contig s [b] ↔ b.1=s:=by simp [contig]
theorem contig_in : ∀ {m:List Blk} {s:Int},contig s m → ∀ b ∈ m,s≤b.1∧b.1+sz b.2≤s+sumL m
 | [],_,_,b,hb=>by cases hb
 | c :: t,s,h,b,hb=>by
  obtain ⟨h1,h2⟩:=h
  have hp:=sz_pos c.2
  have h0:0≤sumL t:=by have:=sumL_ge t;omega
  rw [sumL_cons]
  rcases List.mem_cons.1 hb with e | e
  ·subst e;omega
  ·have:=contig_in h2 b e
   omega
theorem contig_apart : ∀ {m:List Blk} {s:Int},contig s m→m.Pairwise (fun a b => ¬ Meets b a)
 | [],_,_=>List.Pairwise.nil
 | c :: t,s,h=>by
  obtain ⟨h1,h2⟩:=h
  rw [List.pairwise_cons]
  refine ⟨fun b hb hm => ?_,contig_apart h2⟩
  have:=contig_in h2 b hb
  have:=hm.1
  omega
theorem contig_of : ∀ {m:List Blk} {s R:Int},m.Pairwise (fun a b=>a.1≤b.1)→m.Pairwise (fun a b => ¬ Meets b a)→(∀ b ∈ m,s≤b.1∧b.1+sz b.2≤R)→sumL m≤max 0 (R - s)∧(s+sumL m=R→contig s m)
 | [],s,R,_,_,_=>⟨by simp [sumL];omega,fun _=>trivial⟩
 | c :: t,s,R,h1,h2,h3=>by
  rw [List.pairwise_cons] at h1 h2
  have hp:=sz_pos c.2
  have hc:=h3 c (List.mem_cons_self ..)
  obtain ⟨i1,i2⟩:=contig_of (s:=c.1+sz c.2) (R:=R) h1.2 h2.2 (fun b hb=>⟨by
   have q1:=h1.1 b hb
   have q2:=h2.1 b hb
   have hpb:=sz_pos b.2
   unfold Meets at q2
   omega,(h3 b (List.mem_cons_of_mem _ hb)).2⟩)
  rw [sumL_cons]
  refine ⟨by omega,fun e => ?_⟩
  have e1:c.1=s:=by omega
  exact ⟨e1,by rw [← e1];exact i2 (by omega)⟩
def Shp (x:Ob):Prop:=0≤needI x.ws.length x.ls.length∧x.bl.2=needI x.ws.length x.ls.length∧x.bl.1 % sz x.bl.2=0
instance (x:Ob):Decidable (Shp x):=by unfold Shp;infer_instance
def ObsR (h:Hp):Prop:=(1≤h.nx∧h.nx≤1000001)∧h.obs.Pairwise (fun a b=>a.hd < b.hd) ∧ ∀ x ∈ h.obs,1≤x.hd∧x.hd < h.nx∧Shp x
def LinksR (h:Hp):Prop:=(∀ x ∈ h.obs, ∀ t ∈ x.ls,Leads h t) ∧ ∀ t ∈ h.tp,Leads h t
theorem rightH_iff {h:Hp} {m:List Blk} (ho:ObsR h) (hf:Right h.od h.fr) (hp:m.Perm (blks h)) (hs:m.Pairwise (fun a b=>a.1≤b.1)):RightH h ↔ (contig 0 m∧sumL m=sz h.od)∧LinksR h:=by
 have hsum:=sumL_perm hp
 constructor
 ·intro k
  have hmay : ∀ b ∈ m,May h.od b:=fun b hb=>by
   have:=hp.mem_iff.1 hb
   unfold blks at this
   rcases List.mem_append.1 this with e | e
   ·exact hf.may e
   ·obtain ⟨x,hx,rfl⟩:=List.mem_map.1 e
    exact (k.ok x hx).2.2.2.1
  have hap:m.Pairwise (fun a b => ¬ Meets b a):=hp.symm.pairwise k.apart (fun q r=>q r.symm)
  have hc:=contig_of (s:=0) (R:=sz h.od) hs hap (fun b hb=>by have:=(hmay b hb).2.2;omega)
  exact ⟨⟨hc.2 (by rw [hsum,k.sum];omega),by rw [hsum,k.sum]⟩,fun x hx=>(k.ok x hx).2.2.2.2,k.tp⟩
 ·rintro ⟨⟨c1,c2⟩,l1,l2⟩
  have hr:=hf.1
  refine ⟨hf,ho.1,ho.2.1,fun x hx => ?_,?_,l2,by rw [← hsum,c2]⟩
  ·obtain ⟨a1,a2,a3,a4,a5⟩:=ho.2.2 x hx
   have hb:x.bl ∈ m:=hp.mem_iff.2 (by unfold blks;exact List.mem_append_right _ (List.mem_map_of_mem hx))
   have hin:=contig_in c1 x.bl hb
   have hn:=needI_bd x.ws.length x.ls.length
   have hle:=sz_inj (o:=x.bl.2) (p:=h.od) (by omega) (by omega) (by omega) hr.2 (by omega)
   exact ⟨a1,a2,a4.symm,⟨by omega,hle,by omega,by omega,a5⟩,l1 x hx⟩
  ·exact hp.pairwise (contig_apart c1) (fun q r=>q r.symm)
theorem rightH_obs {h:Hp} (k:RightH h):ObsR h:=⟨k.nx,k.rise,fun x hx=>by
 obtain ⟨a1,a2,a3,a4,a5⟩:=k.ok x hx
 exact ⟨a1,a2,by rw [a3];exact a4.1,a3.symm,a4.2.2.2.2⟩⟩
end Go.Proofs.YtcodpnbemdflcaaGreatDoor
namespace Go.Proofs.YtcodpnbemdflcaaGreatDoor
open Go.RowKit
def Found (w:World) (l:List Ob) (g:Int) (n:Nat) (e:Ending) (w':World):Prop :=
 (∃ (p:Nat) (x:Ob),p < n∧findO l g=some (p,x)∧e = .returned (.tuple #[.int .i64 (p:Int), .bool true])∧Grew w w') ∨
 (∃ k:Nat,findO l g=none∧e = .returned (.tuple #[.int .i64 (k:Int), .bool false])∧Grew w w')
set_option maxHeartbeats 1000000 in
theorem findCmp_any (l:List Ob) (g:Int) (bo bh:Nat) (A:Option Addr) (n c k:Nat) (x:Ob) (w:World) (Wo:Whole w bo 24 [.slice A n c]) (Wh:Whole w bh 3 [.int .i64 g]) (hO:RdO w A n l) (hk:k < n) (hx:l[k]? = some x) :
  Calls Tryz.prog 131 #[.int .i64 (k:Int), .pointer (some ⟨bh,0,none⟩), .pointer (some ⟨bo,0,none⟩)] w (Says w (.int .i64 (Lib.compareInt g x.hd))):=by
 have S:=fun W=>(AnyG.cmp_Compare_int Tryz.cmpI g x.hd W).mono fun e w' (h:e = .returned (.int .i64 (Lib.compareInt g x.hd))∧w'=W)=>(⟨h.1,h.2.symm⟩:e = .returned (.int .i64 (Lib.compareInt g x.hd))∧W=w')
 change ∀ W,Calls Tryz.prog 79 _ _ _ at S
 obtain ⟨b,off,y,rfl,hb,hy,A1,n1,c1,B1,m1,d1,h0,_⟩:=hO.get hk
 rw [hx] at hy
 injection hy with hy
 subst hy
 have o0:=Wo.cell 0
 have o1:=Wh.cell 0
 simp only [List.getElem?_cons_zero] at o0 o1
 have hki:(k:Int) < (n:Int):=by omega
 have mixed:=mixedP
 have o0':=cell_grown (a:=⟨bo,0,none⟩) Wo.lt o0
 have o1':=cell_grown (a:=⟨bh,0,none⟩) Wh.lt o1
 have z0:=cell_grown (a:=⟨b,off+k*5,none⟩) hb h0
 generalize Lib.compareInt g x.hd=q at S ⊢
 clear hO Wo Wh hx
 go_enter Tryz.func131,Tryz.ntmps131
 go_wp2_with fail
 refine wp_region_quiet_grown mixed (by kernel_rfl) ?_
 repeat (go_big_quiet_step ((go_at_call 79;exact calls_grown_same (S _))))
 refine wpQuiet_nil ?_
 intro _ hw'
 obtain ⟨⟨nq,osq⟩,hw''⟩:=hw'
 subst hw''
 have G4:=(Grew.refl w).grow nq osq
 generalize Go.Sort.grow (w.drewN nq) osq=w4 at G4 ⊢
 go_wp2
 go_ret
 exact ⟨rfl,G4⟩
theorem cmp_gt {g y:Int} (h:y < g):Lib.compareInt g y=1:=by unfold Lib.compareInt;rw [if_neg (by omega),if_pos h]
theorem cmp_eq {g y:Int} (h:y=g):Lib.compareInt g y=0:=by unfold Lib.compareInt;rw [if_neg (by omega),if_neg (by omega)]
theorem cmp_lt {g y:Int} (h:g < y):Lib.compareInt g y = -1:=by unfold Lib.compareInt;rw [if_pos h]
def HalfRel (w:World) (l:List Ob) (g:Int) (i j:Value) (wr:World):Prop :=
 ∃ a b:Nat,i = .int .i64 (a:Int)∧j = .int .i64 (b:Int)∧a≤b∧b≤l.length∧(∀ q x,q < a→l[q]? = some x→x.hd < g)∧(∀ q x,b≤q→l[q]? = some x→g≤x.hd)∧Grew w wr
theorem half_none {l:List Ob} {g:Int} {a:Nat} (h1 : ∀ q x,q < a→l[q]? = some x→x.hd < g) (h2 : ∀ q x,a≤q→l[q]? = some x→g < x.hd):findO l g=none:=by
 refine findO_none.2 fun x hx => ?_
 obtain ⟨j,hj,e⟩:=List.getElem_of_mem hx
 have hj':l[j]? = some x:=by rw [List.getElem?_eq_getElem hj,e]
 rcases Nat.lt_or_ge j a with q | q
 ·have:=h1 j x q hj';omega
 ·have:=h2 j x q hj';omega
theorem rise_at {l:List Ob} (hr:l.Pairwise (fun a b=>a.hd < b.hd)) {i j:Nat} {x y:Ob} (hx:l[i]? = some x) (hy:l[j]? = some y) (h:i < j):x.hd < y.hd:=by
 obtain ⟨h1,rfl⟩:=List.getElem?_eq_some_iff.1 hx
 obtain ⟨h2,rfl⟩:=List.getElem?_eq_some_iff.1 hy
 exact List.pairwise_iff_getElem.1 hr i j h1 h2 h
set_option maxHeartbeats 2000000 in
theorem sortFind_any (l:List Ob) (g:Int) (bo bh:Nat) (A:Option Addr) (n c:Nat) (w:World) (Wo:Whole w bo 24 [.slice A n c]) (Wh:Whole w bh 3 [.int .i64 g]) (hO:RdO w A n l) (hn:n≤1000) (hr:l.Pairwise (fun a b=>a.hd < b.hd)) :
  Calls Tryz.prog 130 #[.int .i64 (n:Int), .func (.func 131) #[] #[.pointer (some ⟨bh,0,none⟩), .pointer (some ⟨bo,0,none⟩)]] w (Found w l g n):=by
 have S:=fun (W:World) (gr:Grew w W) (k:Nat) (x:Ob) (hk:k < n) (hx:l[k]? = some x)=>findCmp_any l g bo bh A n c k x W (Wo.below gr.below) (Wh.below gr.below) (hO.below gr.below) hk hx
 have hlen:=hO.len
 have HR:=Lib.hid hr
 have HS:=Lib.hid S
 have HL:=Lib.hid hlen
 clear Wo Wh hO hr S hlen
 go_enter Tryz.func130,Tryz.ntmps130
 go_wp2_with fail
 go_loopw [4,6] (HalfRel w l g) (fun i j _=>(intOf j).toNat - (intOf i).toNat)
 case atStart=>exact ⟨0,n,rfl,rfl,Nat.zero_le _,by rw [HL.out];exact Nat.le_refl _,fun q x hq=>absurd hq (Nat.not_lt_zero _),fun q x hq hx=>by have:=(List.getElem?_eq_some_iff.1 hx).1;rw [HL.out] at this;omega,Grew.refl _⟩
 case round =>
  obtain ⟨a,b,rfl,rfl,hab,hb,h1,h2,gr⟩:=hrel
  have H1:=Lib.hid h1
  have H2:=Lib.hid h2
  have hbn:b≤n:=by have:=HL.out;omega
  clear h1 h2 hb
  by_cases hlt:a < b
  ·obtain ⟨m,hm⟩ : ∃ m,m=(a+b) / 2:=⟨_,rfl⟩
   have hmi:((a:Int)+(b:Int)) / 2=(m:Int):=by omega
   have hma:a≤m:=by omega
   have hmb:m < b:=by omega
   obtain ⟨x,hx⟩ : ∃ x,l[m]? = some x:=⟨_,List.getElem?_eq_getElem (by have:=HL.out;omega)⟩
   have S1:=HS.out wr gr m x (by omega) hx
   have Hx:=Lib.hid hx
   clear hx hm
   by_cases hc:x.hd < g
   ·rw [cmp_gt hc] at S1
    have Hn:=Lib.hid (show ∀ q y,q < m+1→l[q]? = some y→y.hd < g from fun q y hq hy=>by
     rcases Nat.lt_or_ge q m with e | e
     ·have:=rise_at HR.out hy Hx.out e;omega
     ·obtain rfl:q=m:=by omega
      rw [Hx.out] at hy;injection hy with hy;rw [← hy];exact hc)
    clear hc
    go_wp2_with (go_at_call 131;refine S1.mono ?_;rintro e w2 ⟨rfl,g2⟩)
    go_roundw
    case rel=>exact ⟨m+1,b,by go_num,rfl,by omega,by have:=HL.out;omega,Hn.out,H2.out,gr.trans g2⟩
    case measure=>simp [intOf];omega
   ·obtain ⟨z,hz,hz0⟩ : ∃ z:Int,Lib.compareInt g x.hd=z∧z≤0:=by
     by_cases he:x.hd=g
     ·exact ⟨0,cmp_eq he,Int.le_refl _⟩
     ·exact ⟨-1,cmp_lt (by omega),by omega⟩
    rw [hz] at S1
    have Hn:=Lib.hid (show ∀ q y,m≤q→l[q]? = some y→g≤y.hd from fun q y hq hy=>by
     rcases Nat.lt_or_ge m q with e | e
     ·have:=rise_at HR.out Hx.out hy e;omega
     ·obtain rfl:q=m:=by omega
      rw [Hx.out] at hy;injection hy with hy;rw [← hy];omega)
    have hzd:decide (0 < z)=false:=decide_eq_false (by omega)
    clear hc hz
    go_wp2_with (go_at_call 131;refine S1.mono ?_;rintro e w2 ⟨rfl,g2⟩)
    go_roundw
    case rel=>exact ⟨a,m,rfl,by go_num,by omega,by have:=HL.out;omega,H1.out,Hn.out,gr.trans g2⟩
    case measure=>simp [intOf];omega
  ·obtain rfl:a=b:=by omega
   by_cases han:a < n
   ·obtain ⟨x,hx⟩ : ∃ x,l[a]? = some x:=⟨_,List.getElem?_eq_getElem (by have:=HL.out;omega)⟩
    have S1:=HS.out wr gr a x han hx
    have hxg:=H2.out a x (Nat.le_refl _) hx
    have Hx:=Lib.hid hx
    clear hx
    by_cases he:x.hd=g
    ·rw [cmp_eq he] at S1
     have Hf:=Lib.hid (findO_some.2 ⟨Hx.out,he,fun j y hj hy=>by have:=H1.out j y hj hy;omega⟩)
     clear he hxg
     go_wp2_with (go_at_call 131;refine S1.mono ?_;rintro e w2 ⟨rfl,g2⟩)
     go_ret2
     exact .inl ⟨a,x,han,Hf.out,rfl,gr.trans g2⟩
    ·rw [cmp_lt (by omega)] at S1
     have Hf:=Lib.hid (half_none H1.out fun q y hq hy=>by
      rcases Nat.lt_or_ge a q with e | e
      ·have:=rise_at HR.out Hx.out hy e;omega
      ·obtain rfl:q=a:=by omega
       rw [Hx.out] at hy;injection hy with hy;rw [← hy];omega)
     clear he hxg
     go_wp2_with (go_at_call 131;refine S1.mono ?_;rintro e w2 ⟨rfl,g2⟩)
     go_ret2
     exact .inr ⟨a,Hf.out,rfl,gr.trans g2⟩
   ·have Hf:=Lib.hid (half_none (a:=a) H1.out fun q y hq hy=>by
     have:=(List.getElem?_eq_some_iff.1 hy).1
     have:=HL.out
     omega)
    go_wp2_with fail
    go_ret2
    exact .inr ⟨a,Hf.out,rfl,gr⟩
end Go.Proofs.YtcodpnbemdflcaaGreatDoor
namespace Go.Proofs.YtcodpnbemdflcaaGreatDoor
open Go.RowKit
set_option maxHeartbeats 1000000 in
theorem find_any (l:List Ob) (g:Int) (A:Option Addr) (n c:Nat) (w:World) (hO:RdO w A n l) (hn:n≤1000) (hr:l.Pairwise (fun a b=>a.hd < b.hd)) :
  Calls Tryz.prog 86 #[.slice A n c, .int .i64 g] w (Found w l g n):=by
 have g1:=(Grew.refl w).alloc (.cells #[.slice A n c] 24)
 have g2:=g1.alloc (.cells #[.int .i64 g] 3)
 have K1:=(Whole.new w #[.slice A n c] 24)
 have K2:=(Whole.new (w.alloc (.cells #[.slice A n c] 24)) #[.int .i64 g] 3)
 have hsz:(w.alloc (.cells #[.slice A n c] 24)).heap.size=w.heap.size+1:=by simp
 rw [hsz] at K2
 have S:=sortFind_any l g w.heap.size (w.heap.size+1) A n c _ (K1.alloc (.cells #[.int .i64 g] 3)) K2 (hO.below g2.below) hn hr
 have G2:=Lib.hid g2
 clear K1 K2 hO hr g1 g2 hsz
 go_enter Tryz.func86,Tryz.ntmps86
 go_wp2_with (go_at_call 130;refine S.mono ?_;rintro e w2 (⟨p,x,hp,hf,rfl,g3⟩ | ⟨k,hf,rfl,g3⟩))
 ·go_ret2
  exact .inl ⟨p,x,hp,hf,rfl,G2.out.trans g3⟩
 ·go_ret2
  exact .inr ⟨k,hf,rfl,G2.out.trans g3⟩
def mayL (l:List Ob) (t:Int):Bool:=decide (t=0) || (findO l t).isSome
theorem mayL_leads (h:Hp) (t:Int):mayL h.obs t=decide (Leads h t):=by
 unfold mayL
 rw [Bool.eq_iff_iff,Bool.or_eq_true,decide_eq_true_iff,decide_eq_true_iff,leads_iff]
 cases findO h.obs t <;> simp
set_option maxHeartbeats 1000000 in
theorem mayLink_any (l:List Ob) (t:Int) (A:Option Addr) (n c:Nat) (w:World) (hO:RdO w A n l) (hn:n≤1000) (hr:l.Pairwise (fun a b=>a.hd < b.hd)) :
  Calls Tryz.prog 81 #[.slice A n c, .int .i64 t] w (Says w (.bool (mayL l t))):=by
 have S:=find_any l t A n c w hO hn hr
 clear hO hr
 unfold mayL
 cases hf:findO l t with
 | some q =>
  have S2:Calls Tryz.prog 86 #[.slice A n c, .int .i64 t] w fun e w' => ∃ k:Int,e = .returned (.tuple #[.int .i64 k, .bool true])∧Grew w w':=S.mono fun e w' h=>by
   rcases h with ⟨p,x,_,h1,h2,h3⟩ | ⟨k,h1,_⟩
   ·exact ⟨p,h2,h3⟩
   ·rw [hf] at h1;cases h1
  clear S hf
  go_enter Tryz.func81,Tryz.ntmps81
  go_wp2_with (go_at_call 86;refine S2.mono ?_;rintro e w2 ⟨k,rfl,g2⟩)
  go_ret
  exact ⟨by simp,g2⟩
 | none =>
  have S2:Calls Tryz.prog 86 #[.slice A n c, .int .i64 t] w fun e w' => ∃ k:Int,e = .returned (.tuple #[.int .i64 k, .bool false])∧Grew w w':=S.mono fun e w' h=>by
   rcases h with ⟨p,x,_,h1,h2,h3⟩ | ⟨k,h1,h2,h3⟩
   ·rw [hf] at h1;cases h1
   ·exact ⟨k,h2,h3⟩
  clear S hf
  by_cases ht:t=0
  ·subst ht
   go_enter Tryz.func81,Tryz.ntmps81
   go_wp2_with (go_at_call 86;refine S2.mono ?_;rintro e w2 ⟨k,rfl,g2⟩)
   go_ret
   exact ⟨by simp,g2⟩
  ·have ht0:(t == 0)=false:=by simp [ht]
   have Ht:=Lib.hid ht
   clear ht
   go_enter Tryz.func81,Tryz.ntmps81
   go_wp2_with (go_at_call 86;refine S2.mono ?_;rintro e w2 ⟨k,rfl,g2⟩)
   go_ret
   exact ⟨by have:=Ht.out;simp [this],g2⟩
set_option maxHeartbeats 1000000 in
theorem nowhere_any (bh:Nat) (H:Hp) (s:HSl) (t:Int) (w:World) (Wh:Whole w bh 28 (hcs H s)) (h:RdO w s.A s.n H.obs) (hn:s.n≤1000) (hr:H.obs.Pairwise (fun a b=>a.hd < b.hd)) :
  Calls Tryz.prog 80 #[.int .i64 t, .pointer (some ⟨bh,0,none⟩)] w (Says w (.bool (!mayL H.obs t))):=by
 obtain ⟨A,n,c,F,m,d⟩:=s
 have S:=mayLink_any H.obs t A n c w h hn hr
 have c1:=Wh.cell 1
 simp only [hcs,List.getElem?_cons_succ,List.getElem?_cons_zero] at c1
 generalize mayL H.obs t=q at S ⊢
 clear Wh h hr
 go_enter Tryz.func80,Tryz.ntmps80
 go_wp2_with (go_at_call 81;refine S.mono ?_;rintro e w2 ⟨rfl,g2⟩)
 go_ret
 exact ⟨rfl,g2⟩
def LeadRel (w:World) (H:Hp) (l:List Int) (i:Value) (wr:World):Prop := ∃ k:Nat,k≤l.length∧i = .int .i64 (k:Int)∧(∀ j t,j < k→l[j]? = some t→mayL H.obs t=true)∧Grew w wr
set_option maxHeartbeats 1000000 in
theorem indexLead_any (bh:Nat) (H:Hp) (s:HSl) (B:Option Addr) (q qc:Nat) (l:List Int) (w:World) (Wh:Whole w bh 28 (hcs H s)) (h:RdO w s.A s.n H.obs) (hn:s.n≤1000) (hr:H.obs.Pairwise (fun a b=>a.hd < b.hd)) (hl:RdI w B q l) (hq:q≤10000) :
  Calls Tryz.prog 123 #[.slice B q qc, .func (.func 80) #[] #[.pointer (some ⟨bh,0,none⟩)]] w
   fun e w'=>(∃ k:Nat,(∃ t ∈ l,mayL H.obs t=false)∧e = .returned (.int .i64 (k:Int))∧Grew w w')∨((∀ t ∈ l,mayL H.obs t=true)∧e = .returned (.int .i64 (-1))∧Grew w w'):=by
 have S:=Lib.hid fun (W:World) (gr:Grew w W) (t:Int)=>nowhere_any bh H s t W (Wh.below gr.below) (h.below gr.below) hn hr
 have hlen:=hl.len
 have HL:=Lib.hid hlen
 have HR:=Lib.hid hl
 clear Wh h hr hl hlen
 go_enter Tryz.func123,Tryz.ntmps123
 go_wp2_with fail
 go_loopw [8] (LeadRel w H l) (fun i _=>q - (intOf i).toNat)
 case atStart=>exact ⟨0,Nat.zero_le _,rfl,fun j t hj=>absurd hj (Nat.not_lt_zero _),Grew.refl _⟩
 case round =>
  obtain ⟨k,hk,rfl,hno,gr⟩:=hrel
  have Hno:=Lib.hid hno
  have hkq:k≤q:=by have:=HL.out;omega
  clear hno hk
  by_cases hlt:k < q
  ·obtain ⟨b,off,t,rfl,hb,ht,hc⟩:=HR.out.cell hlt
   have z0:=(gr.below.cell (p:=⟨b,off+k,none⟩) hb).trans hc
   have hki:(k:Int) < (q:Int):=by omega
   have Ht:=Lib.hid ht
   have S1:=S.out wr gr t
   clear ht hc
   cases hm:mayL H.obs t with
   | true =>
    rw [hm] at S1
    have Hm:=Lib.hid hm
    clear hm
    go_wp2_with (go_at_call 80;refine S1.mono ?_;rintro e w2 ⟨rfl,g2⟩)
    go_roundw
    case rel=>exact ⟨k+1,by have:=HL.out;omega,by go_num,fun j y hj hy=>by
     rcases Nat.lt_or_ge j k with e | e
     ·exact Hno.out j y e hy
     ·obtain rfl:j=k:=by omega
      rw [Ht.out] at hy;injection hy with hy;rw [← hy];exact Hm.out,gr.trans g2⟩
    case measure=>simp [intOf];omega
   | false =>
    rw [hm] at S1
    have Hm:=Lib.hid hm
    clear hm
    go_wp2_with (go_at_call 80;refine S1.mono ?_;rintro e w2 ⟨rfl,g2⟩)
    go_ret
    exact .inl ⟨k,⟨t,List.mem_of_getElem? Ht.out,Hm.out⟩,rfl,gr.trans g2⟩
  ·obtain rfl:k=q:=by omega
   have Hall:=Lib.hid (show ∀ t ∈ l,mayL H.obs t=true from fun t ht=>by
    obtain ⟨j,hj,e⟩:=List.getElem_of_mem ht
    exact Hno.out j t (by have:=HL.out;omega) (by rw [List.getElem?_eq_getElem hj,e]))
   go_wp2_with fail
   go_ret
   exact .inr ⟨Hall.out,rfl,gr⟩
set_option maxHeartbeats 1000000 in
theorem containsLead_any (bh:Nat) (H:Hp) (s:HSl) (B:Option Addr) (q qc:Nat) (l:List Int) (w:World) (Wh:Whole w bh 28 (hcs H s)) (h:RdO w s.A s.n H.obs) (hn:s.n≤1000) (hr:H.obs.Pairwise (fun a b=>a.hd < b.hd)) (hl:RdI w B q l) (hq:q≤10000) :
  Calls Tryz.prog 82 #[.slice B q qc, .func (.func 80) #[] #[.pointer (some ⟨bh,0,none⟩)]] w
   (Says w (.bool (!decide (∀ t ∈ l,mayL H.obs t=true)))):=by
 have S:=indexLead_any bh H s B q qc l w Wh h hn hr hl hq
 clear Wh h hr hl
 by_cases hd : ∀ t ∈ l,mayL H.obs t=true
 ·rw [decide_eq_true hd]
  have S2:=S.mono fun e w' (h:_∨_)=>(h.elim (fun ⟨k,⟨t,ht,hm⟩,_⟩=>by rw [hd t ht] at hm;cases hm) (fun h=>h.2):e = .returned (.int .i64 (-1))∧Grew w w')
  clear S hd
  go_enter Tryz.func82,Tryz.ntmps82
  go_wp2_with (go_at_call 123;refine S2.mono ?_;rintro e w2 ⟨rfl,g2⟩)
  go_ret
  exact ⟨rfl,g2⟩
 ·rw [decide_eq_false hd]
  have S2:=S.mono fun e w' (h:_∨_)=>(h.elim (fun ⟨k,_,h⟩=>⟨k,h⟩) (fun h=>absurd h.1 hd) : ∃ k:Nat,e = .returned (.int .i64 (k:Int))∧Grew w w')
  clear S hd
  go_enter Tryz.func82,Tryz.ntmps82
  go_wp2_with (go_at_call 123;refine S2.mono ?_;rintro e w2 ⟨k,rfl,g2⟩)
  go_ret
  exact ⟨by first | rfl | simp,g2⟩
end Go.Proofs.YtcodpnbemdflcaaGreatDoor
namespace Go.Proofs.YtcodpnbemdflcaaGreatDoor
open Go.RowKit
set_option maxHeartbeats 1000000 in
theorem need_any (a b:Int) (w:World):Calls Tryz.prog 83 #[.int .i64 a, .int .i64 b] w fun e w'=>e = .returned (.int .i64 (needI a b))∧w=w':=by
 by_cases h:0≤needI a b
 ·obtain ⟨h1,h2,h3,h4⟩:=needI_in h
  have hN:=(needI_bd a b).2
  have hlt:=Lib.hid (fun o h0 ho=>needI_lt (w:=a) (l:=b) (o:=o) h h0 ho)
  generalize needI a b=N at h hN hlt ⊢
  go_enter Tryz.func83,Tryz.ntmps83
  go_wp2
  go_loop [5] (fun i => ∃ o:Int,0≤o∧o≤N∧i = .int .i64 o) (fun i=>7 - (intOf i).toNat)
  case atStart=>exact ⟨0,Int.le_refl _,h,rfl⟩
  case round =>
   obtain ⟨o,h0,ho,rfl⟩:=hrel
   have S:=fun W=>(by have:=words_any o W;rw [wordsI_in h0 (by omega)] at this;exact this:Calls Tryz.prog 16 #[.int .i64 o] W fun e w'=>e = .returned (.int .i64 (sz o))∧W=w')
   have hl:=hlt.out o h0 ho
   have hz:=sz_le256 (o:=o) h0 (by omega)
   have hz0:=sz_pos o
   obtain ⟨z,hze⟩ : ∃ z,z=sz o:=⟨_,rfl⟩
   rw [← hze] at S hl hz hz0
   clear hze
   by_cases hon:o < N
   ·have hc:=hl.2 hon
    clear hl
    go_wp2_with (go_at_call 16;refine (S _).mono ?_;rintro e w1 ⟨rfl,rfl⟩)
    go_round
    case rel=>exact ⟨o+1,by omega,by omega,by go_num⟩
    case measure=>simp [intOf];omega
   ·obtain rfl:o=N:=by omega
    have hc : ¬ z < 1+a+b:=fun q=>hon (hl.1 q)
    clear hl
    go_wp2_with (go_at_call 16;refine (S _).mono ?_;rintro e w1 ⟨rfl,rfl⟩)
    go_ret
    exact ⟨rfl,rfl⟩
 ·have hn:needI a b = -1:=by have:=(needI_bd a b).1;omega
  rw [hn]
  have hout:a < 0∨32 < a∨b < 0∨16 < b:=by
   apply Classical.byContradiction
   intro q
   have:0≤needI a b:=by
    unfold needI
    rw [if_pos (by omega)]
    repeat (split; · omega)
    omega
   exact h this
  clear hn h
  by_cases q1:a < 0
  ·go_enter Tryz.func83,Tryz.ntmps83
   go_wp2
   go_ret
   exact ⟨rfl,rfl⟩
  by_cases q2:32 < a
  ·go_enter Tryz.func83,Tryz.ntmps83
   go_wp2
   go_ret
   exact ⟨rfl,rfl⟩
  by_cases q3:b < 0
  ·go_enter Tryz.func83,Tryz.ntmps83
   go_wp2
   go_ret
   exact ⟨rfl,rfl⟩
  have q4:16 < b:=by omega
  go_enter Tryz.func83,Tryz.ntmps83
  go_wp2
  go_ret
  exact ⟨rfl,rfl⟩
theorem tmod_zero {a:Int} {o:Int} : a.tmod (sz o)=0 ↔ a % sz o=0:=⟨fun h=>Int.emod_eq_zero_of_dvd (Int.dvd_of_tmod_eq_zero h),fun h=>Int.tmod_eq_zero_of_dvd (Int.dvd_of_emod_eq_zero h)⟩
set_option maxHeartbeats 2000000 in
theorem blockFits_any (x:Ob) (A B:Option Addr) (n c m d:Nat) (w:World) (hw:x.ws.length=n) (hl:x.ls.length=m) :
  Calls Tryz.prog 75 #[.agg #[.int .i64 x.hd, .int .i64 x.bl.1, .int .i64 x.bl.2, .slice A n c, .slice B m d]] w (Says w (.bool (decide (Shp x)))):=by
 have hb:=needI_bd (n:Int) (m:Int)
 have S:=fun W=>need_any (n:Int) (m:Int) W
 have g1:=(Grew.refl w).alloc (.cells #[.int .i64 x.hd, .int .i64 x.bl.1, .int .i64 x.bl.2, .slice A n c, .slice B m d] 60)
 have K1:=(Whole.new w #[.int .i64 x.hd, .int .i64 x.bl.1, .int .i64 x.bl.2, .slice A n c, .slice B m d] 60)
 have hS:Shp x ↔ 0≤needI n m∧x.bl.2=needI n m∧x.bl.1 % sz (needI n m)=0:=by
  unfold Shp
  rw [hw,hl]
  exact ⟨fun ⟨a,b,c⟩=>⟨a,b,by rw [← b];exact c⟩,fun ⟨a,b,c⟩=>⟨a,b,by rw [b];exact c⟩⟩
 obtain ⟨v,hv⟩ : ∃ v,v=decide (Shp x):=⟨_,rfl⟩
 rw [← hv]
 have HV:=Lib.hid hv
 have HS:=Lib.hid hS
 clear hS hw hl hv
 obtain ⟨b1,hb1⟩ : ∃ b1,b1=x.bl.1:=⟨_,rfl⟩
 obtain ⟨b2,hb2⟩ : ∃ b2,b2=x.bl.2:=⟨_,rfl⟩
 obtain ⟨hd,hhd⟩ : ∃ hd,hd=x.hd:=⟨_,rfl⟩
 rw [← hb1, ← hb2, ← hhd] at g1 K1 ⊢
 have HS2:=Lib.hid (show v=decide (0≤needI n m∧b2=needI n m∧b1 % sz (needI n m)=0) by rw [HV.out,hb1,hb2];exact decide_eq_decide.2 HS.out)
 clear hb1 hb2 hhd HV HS
 generalize needI n m=N at S hb HS2 ⊢
 have hG:=Lib.hid g1
 obtain ⟨W,hW⟩ : ∃ W,W=w.alloc (.cells #[.int .i64 hd, .int .i64 b1, .int .i64 b2, .slice A n c, .slice B m d] 60):=⟨_,rfl⟩
 rw [← hW] at K1 hG
 have c1:=K1.cell 1
 have c2:=K1.cell 2
 have c3:=K1.cell 3
 have c4:=K1.cell 4
 simp only [List.getElem?_cons_succ,List.getElem?_cons_zero] at c1 c2 c3 c4
 have mixed:=mixedP
 go_enter Tryz.func75,Tryz.ntmps75
 go_upto_region 2 with (go_at_call 83;refine (S _).mono ?_;rintro e w1 ⟨rfl,rfl⟩)
 rw [← hW]
 have z1:=cell_grown (a:=⟨w.heap.size,1,none⟩) K1.lt c1
 have z2:=cell_grown (a:=⟨w.heap.size,2,none⟩) K1.lt c2
 clear c1 c2 c3 c4 hW K1 S g1
 by_cases h0:0≤N
 ·have d0:decide (0≤N)=true:=decide_eq_true h0
  have W1:=fun W=>words_any N W
  rw [wordsI_in h0 (by omega)] at W1
  have hz:=sz_pos N
  have hz2:=sz_le256 h0 (by omega)
  have Ht:=Lib.hid (tmod_zero (a:=b1) (o:=N))
  generalize sz N=z at W1 hz hz2 Ht HS2 ⊢
  by_cases h1:b2=N
  ·subst h1
   by_cases h2:b1.tmod z=0
   ·have e2:(b1.tmod z == 0)=true:=by simp [h2]
    have e3:decide (b1.tmod z=0)=true:=by simp [h2]
    have Hd:=Lib.hid (show v=true from HS2.out.trans <| decide_eq_true ⟨h0,rfl,Ht.out.1 h2⟩)
    clear h2
    refine wp_region_quiet_grown mixed (by kernel_rfl) ?_
    repeat (go_big_quiet_step ((go_at_call 16;exact calls_grown_same (W1 _))))
    refine wpQuiet_nil ?_
    rintro _ ⟨⟨nq,osq⟩,rfl⟩
    go_wp2_with fail
    go_ret
    exact ⟨by rw [Hd.out];first | rfl | (simp [*];done),hG.out.grow nq osq⟩
   ·have e2:(b1.tmod z == 0)=false:=by simp [h2]
    have e3:decide (b1.tmod z=0)=false:=by simp [h2]
    have Hd:=Lib.hid (show v=false from HS2.out.trans <| decide_eq_false fun q=>h2 (Ht.out.2 q.2.2))
    clear h2
    refine wp_region_quiet_grown mixed (by kernel_rfl) ?_
    repeat (go_big_quiet_step ((go_at_call 16;exact calls_grown_same (W1 _))))
    refine wpQuiet_nil ?_
    rintro _ ⟨⟨nq,osq⟩,rfl⟩
    go_wp2_with fail
    go_ret
    exact ⟨by rw [Hd.out];first | rfl | (simp [*];done),hG.out.grow nq osq⟩
  ·have e1:(b2 == N)=false:=by simp [h1]
   have e2:decide (b2=N)=false:=by simp [h1]
   have Hd:=Lib.hid (show v=false from HS2.out.trans <| decide_eq_false fun q=>h1 q.2.1)
   clear h1
   refine wp_region_quiet_grown mixed (by kernel_rfl) ?_
   repeat (go_big_quiet_step ((go_at_call 16;exact calls_grown_same (W1 _))))
   refine wpQuiet_nil ?_
   rintro _ ⟨⟨nq,osq⟩,rfl⟩
   go_wp2_with fail
   go_ret
   exact ⟨by rw [Hd.out];first | rfl | (simp [*];done),hG.out.grow nq osq⟩
 ·have d0:decide (0≤N)=false:=decide_eq_false h0
  have Hd:=Lib.hid (show v=false from HS2.out.trans <| decide_eq_false fun q=>h0 q.1)
  refine wp_region_quiet_grown mixed (by kernel_rfl) ?_
  repeat (go_big_quiet_step (fail))
  refine wpQuiet_nil ?_
  rintro _ ⟨⟨nq,osq⟩,rfl⟩
  go_wp2_with fail
  go_ret
  exact ⟨by rw [Hd.out];first | rfl | (simp [*];done),hG.out.grow nq osq⟩
end Go.Proofs.YtcodpnbemdflcaaGreatDoor

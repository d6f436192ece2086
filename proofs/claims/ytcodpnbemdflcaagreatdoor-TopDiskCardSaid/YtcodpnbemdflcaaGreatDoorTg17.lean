/-
  Heaps of objects in memory of the call's own: every row in a block of its own. Plain lemmas over any program.
-/
import Derived.Test.YtcodpnbemdflcaaGreatDoorTg16
import Derived.Lib.MinMax
namespace Go.Proofs.YtcodpnbemdflcaaGreatDoor
open Go.RowKit
theorem run_app_none {P:Program} {w:World} {base size n:Nat} {t ty U:TypeId} (ht:P.underlying t=some (.slice U)) {i0:TypeInfo} (hi:P.info? U=some i0) {v:Value} {xs:List Value} (hown:w.ownsRow base U size v n xs) (A:Option Addr) (c:Nat) :
  (Builtin.append_ #[t,t] ty #[v, .slice A 0 c]).run P w = .ok v w:=by
 rcases hown.2 with ⟨rfl,_⟩ | ⟨g,cap,cur,rfl,_,_,hnc,_⟩
 ·cases A <;> simp [Builtin.append_,run_underlying ht,sizeOf,typeInfo,hi,Builtin.lenOf,Builtin.firstCells,loadCells,loadCellsFrom]
 ·cases A <;> simp [Builtin.append_,run_underlying ht,sizeOf,typeInfo,hi,Builtin.lenOf,Builtin.firstCells,loadCells,loadCellsFrom,hnc,storeCells]
theorem ivs_one (l:List Int) : ∀ u ∈ ivs l,u.oneCell'=true:=by
 intro u hu
 obtain ⟨x,_,rfl⟩:=List.mem_map.1 hu
 rfl
structure OSl where
 wv:Value
 lv:Value
def oc (p:Ob × OSl):List Value := [.int .i64 p.1.hd, .int .i64 p.1.bl.1, .int .i64 p.1.bl.2,p.2.wv,p.2.lv]
def ocs (os:List (Ob × OSl)):List Value:=os.flatMap oc
theorem ocs_snoc (os:List (Ob × OSl)) (p:Ob × OSl):ocs (os ++ [p])=ocs os++oc p:=by simp [ocs]
theorem ocs_length (os:List (Ob × OSl)):(ocs os).length=os.length*5:=by
 induction os with
 | nil=>rfl
 | cons p t ih =>
  have:ocs (p :: t)=oc p++ocs t:=by simp [ocs]
  rw [this,List.length_append,ih,List.length_cons]
  simp [oc]
  omega
theorem ocs_get : ∀ {os:List (Ob × OSl)} {j:Nat} {p:Ob × OSl},os[j]? = some p → ∀ i u,(oc p)[i]? = some u→(ocs os)[j*5+i]? = some u
 | [],j,p,h,_,_,_=>by simp at h
 | q :: t,0,p,h,i,u,hu=>by
  simp at h
  subst h
  have:ocs (q :: t)=oc q++ocs t:=by simp [ocs]
  have hi:i < (oc q).length:=(List.getElem?_eq_some_iff.1 hu).1
  rw [this,Nat.zero_mul,Nat.zero_add,List.getElem?_append_left hi,hu]
 | q :: t,j+1,p,h,i,u,hu=>by
  have:ocs (q :: t)=oc q++ocs t:=by simp [ocs]
  have hq:(oc q).length=5:=rfl
  rw [this,List.getElem?_append_right (by omega),hq,show (j+1)*5+i - 5=j*5+i by omega]
  exact ocs_get (by simpa using h) i u hu
def twoB (a:OSl):List Nat:=a.wv.ownBlock.toList++a.lv.ownBlock.toList
def blocksOf (os:List (Ob × OSl)):List Nat:=os.flatMap fun p=>twoB p.2
theorem blocksOf_snoc (os:List (Ob × OSl)) (p:Ob × OSl):blocksOf (os ++ [p])=blocksOf os++twoB p.2:=by simp [blocksOf]
structure OwnOs (U I:TypeId) (w:World) (base:Nat) (v:Value) (os:List (Ob × OSl)):Prop where
 row:w.ownsRow base U 5 v os.length (ocs os)
 ints : ∀ p ∈ os,OwnV I w base p.2.wv (ivs p.1.ws)∧OwnV I w base p.2.lv (ivs p.1.ls)
 apart:(blocksOf os).Nodup
section
variable {U I:TypeId} {w w':World} {base:Nat} {v v':Value} {os:List (Ob × OSl)}
theorem OwnOs.nil:OwnOs U I w base (.slice none 0 0) []:=⟨World.ownsRow_nil w base U 5,(fun p h=>by cases h),List.nodup_nil⟩
theorem mem_two {a:OSl} {k:Nat} : k ∈ twoB a ↔ a.wv.ownBlock=some k∨a.lv.ownBlock=some k:=by
 unfold twoB
 rw [List.mem_append,Option.mem_toList,Option.mem_toList]
theorem mem_blocks {k:Nat} : k ∈ blocksOf os ↔ ∃ p ∈ os,p.2.wv.ownBlock=some k∨p.2.lv.ownBlock=some k:=by
 unfold blocksOf
 rw [List.mem_flatMap]
 constructor
 ·rintro ⟨p,hp,hk⟩;exact ⟨p,hp,mem_two.1 hk⟩
 ·rintro ⟨p,hp,hk⟩;exact ⟨p,hp,mem_two.2 hk⟩
theorem OwnOs.lt (h:OwnOs U I w base v os) : ∀ k ∈ blocksOf os,base≤k∧k < w.heap.size:=by
 intro k hk
 obtain ⟨p,hp,e⟩:=mem_blocks.1 hk
 rcases e with e | e
 ·exact (h.ints p hp).1.lt k e
 ·exact (h.ints p hp).2.lt k e
theorem OwnOs.row_lt (h:OwnOs U I w base v os) : ∀ k,v.ownBlock=some k→base≤k∧k < w.heap.size:=World.ownsRow.lt h.row
theorem row_keep {U:TypeId} {s n:Nat} {xs:List Value} (h:w.ownsRow base U s v n xs) (hb : ∀ k,v.ownBlock=some k→w'.heap[k]? = w.heap[k]?):w'.ownsRow base U s v n xs:=by
 refine ⟨h.1,?_⟩
 rcases h.2 with h2 | ⟨g,cap,cur,rfl,hg,hh,r⟩
 ·exact .inl h2
 ·exact .inr ⟨g,cap,cur,rfl,hg,by rw [hb g rfl];exact hh,r⟩
theorem OwnOs.keep (h:OwnOs U I w base v os) (hr : ∀ k,v.ownBlock=some k→w'.heap[k]? = w.heap[k]?) (hi : ∀ k ∈ blocksOf os,w'.heap[k]? = w.heap[k]?):OwnOs U I w' base v os :=
 ⟨row_keep h.row hr,fun p hp=>⟨(h.ints p hp).1.keep fun k hk=>hi k (mem_blocks.2 ⟨p,hp, .inl hk⟩),(h.ints p hp).2.keep fun k hk=>hi k (mem_blocks.2 ⟨p,hp, .inr hk⟩)⟩,h.apart⟩
theorem OwnOs.below (h:OwnOs U I w base v os) (hb:Below w.heap.size w w'):OwnOs U I w' base v os :=
 h.keep (fun k hk=>hb.block k (h.row_lt k hk).2) fun k hk=>hb.block k (h.lt k hk).2
theorem OwnOs.mono (h:OwnOs U I w base v os) {base':Nat} (hb:base'≤base):OwnOs U I w base' v os:=by
 refine ⟨⟨h.row.1,?_⟩,fun p hp=>⟨(h.ints p hp).1.mono hb,(h.ints p hp).2.mono hb⟩,h.apart⟩
 rcases h.row.2 with h2 | ⟨g,cap,cur,hv,hg,r⟩
 ·exact .inl h2
 ·exact .inr ⟨g,cap,cur,hv,by omega,r⟩
theorem row_type {s n:Nat} {xs:List Value} (h:w.ownsRow base U s v n xs) {k:Nat} (hk:v.ownBlock=some k) : ∃ cur,w.heap[k]? = some (.cells cur U (0,0)):=by
 rcases h.2 with ⟨rfl,_⟩ | ⟨g,cap,cur,rfl,hg,hh,_⟩
 ·cases hk
 ·injection hk with hk
  subst hk
  exact ⟨cur,hh⟩
theorem OwnOs.row_ne (h:OwnOs U I w base v os) (hUI:U≠I) : ∀ k ∈ blocksOf os,v.ownBlock≠some k:=by
 intro k hk e
 obtain ⟨c1,h1⟩:=row_type h.row e
 obtain ⟨p,hp,e2⟩:=mem_blocks.1 hk
 have h2 : ∃ cur,w.heap[k]? = some (.cells cur I (0,0)):=by
  rcases e2 with e2 | e2
  ·exact row_type (h.ints p hp).1 e2
  ·exact row_type (h.ints p hp).2 e2
 obtain ⟨c2,h2⟩:=h2
 rw [h1] at h2
 injection h2 with h2
 injection h2 with _ h3
 exact hUI h3
theorem OwnOs.grown {r:Option Nat} (h:OwnOs U I w base v os) (hg:w.grownBy w' r) (h1 : ∀ k,v.ownBlock=some k→some k≠r) (h2 : ∀ k ∈ blocksOf os,some k≠r):OwnOs U I w' base v os :=
 h.keep (fun k hk=>hg.block k (h.row_lt k hk).2 (h1 k hk)) fun k hk=>hg.block k (h.lt k hk).2 (h2 k hk)
theorem OwnOs.snoc (h:OwnOs U I w base v os) (hUI:U≠I) {p:Ob × OSl} (hw:OwnV I w base p.2.wv (ivs p.1.ws)) (hl:OwnV I w base p.2.lv (ivs p.1.ls)) (hn:(twoB p.2).Nodup) (hd : ∀ k ∈ twoB p.2,k ∉ blocksOf os)
  (hrow:w'.ownsRow base U 5 v' (os.length+1) (ocs os++oc p)) (hg:w.grownBy w' v.ownBlock):OwnOs U I w' base v' (os ++ [p]):=by
 have hne : ∀ k ∈ twoB p.2,v.ownBlock≠some k:=by
  intro k hk e
  obtain ⟨c1,h1⟩:=row_type h.row e
  have h2 : ∃ cur,w.heap[k]? = some (.cells cur I (0,0)):=by
   rcases mem_two.1 hk with e2 | e2
   ·exact row_type hw e2
   ·exact row_type hl e2
  obtain ⟨c2,h2⟩:=h2
  rw [h1] at h2
  injection h2 with h2
  injection h2 with _ h3
  exact hUI h3
 refine ⟨by rw [List.length_append,List.length_singleton,ocs_snoc];exact hrow,fun q hq => ?_,?_⟩
 ·rcases List.mem_append.1 hq with e | e
  ·exact ⟨(h.ints q e).1.keep fun k hk=>hg.block k ((h.ints q e).1.lt k hk).2 fun c=>h.row_ne hUI k (mem_blocks.2 ⟨q,e, .inl hk⟩) c.symm,(h.ints q e).2.keep fun k hk=>hg.block k ((h.ints q e).2.lt k hk).2 fun c=>h.row_ne hUI k (mem_blocks.2 ⟨q,e, .inr hk⟩) c.symm⟩
  ·rw [List.mem_singleton.1 e]
   exact ⟨hw.keep fun k hk=>hg.block k (hw.lt k hk).2 fun c=>hne k (mem_two.2 (.inl hk)) c.symm,hl.keep fun k hk=>hg.block k (hl.lt k hk).2 fun c=>hne k (mem_two.2 (.inr hk)) c.symm⟩
 ·rw [blocksOf_snoc,List.nodup_append]
  exact ⟨h.apart,hn,fun a ha b hb e=>hd b hb (e ▸ ha)⟩
theorem OwnOs.rd (h:OwnOs U I w base v os) : ∃ A c,v = .slice A os.length c∧RdO w A os.length (os.map (·.1)):=by
 rcases h.row.2 with ⟨rfl,hn⟩ | ⟨g,cap,cur,rfl,hg,hh,hc,hm,_⟩
 ·exact ⟨none,0,by rw [hn],by simp,fun hp=>by omega⟩
 ·refine ⟨_,cap,rfl,by simp,fun hp=>⟨g,0,rfl,(Array.getElem?_eq_some_iff.1 hh).1,fun j x hx => ?_⟩⟩
  rw [List.getElem?_map,Option.map_eq_some_iff] at hx
  obtain ⟨⟨x',a⟩,hj,rfl⟩:=hx
  have cell : ∀ i u,(oc (x',a))[i]? = some u→w.cell? ⟨g,0+j*5+i,none⟩=some u:=fun i u hu=>by
   have e:=World.ownsRow.cells h.row (g:=g) rfl _ _ (ocs_get hj i u hu)
   rw [add_plain] at e
   rw [show 0+j*5+i=0+(j*5+i) by omega]
   exact e
  obtain ⟨hw,hl⟩:=h.ints _ (List.mem_of_getElem? hj)
  obtain ⟨A1,c1,e1,_,_,r1⟩:=hw.shape rfl
  obtain ⟨A2,c2,e2,_,_,r2⟩:=hl.shape rfl
  simp only at e1 e2
  exact ⟨A1,_,c1,A2,_,c2,cell 0 _ rfl,cell 1 _ rfl,cell 2 _ rfl,by rw [← e1];exact cell 3 _ rfl,by rw [← e2];exact cell 4 _ rfl,r1,r2⟩
theorem run_appO {P:Program} (t ty:TypeId) (ht:P.underlying t=some (.slice U)) {z:Value} (hinfo:(P.info? U).map (fun i=>(i.zero,i.size,i.bytes))=some (some z,5,72)) (hz:z.cells.size=5)
  (hrow:w.ownsRow base U 5 v os.length (ocs os)) (p:Ob × OSl) (h1:p.2.wv.oneCell'=true) (h2:p.2.lv.oneCell'=true) (hle:os.length+1≤1000000) (hbase:base≤w.heap.size) :
  ∃ v' w',(Builtin.append_ #[t,t] ty #[v, .slice (some ⟨w.heap.size,0,none⟩) 1 1]).run P (w.alloc (.cells #[.int .i64 p.1.hd, .int .i64 p.1.bl.1, .int .i64 p.1.bl.2,p.2.wv,p.2.lv] U)) = .ok v' w' ∧
   w'.ownsRow base U 5 v' (os.length+1) (ocs os++oc p)∧w.grownBy w' v.ownBlock∧(v'.ownBlock=v.ownBlock ∨ ∃ k,v'.ownBlock=some k∧w.heap.size≤k):=by
 obtain ⟨i0,hi,hz0,hz1,hz2⟩:=info_parts hinfo
 have hb1:Below w.heap.size w (w.alloc (.cells #[.int .i64 p.1.hd, .int .i64 p.1.bl.1, .int .i64 p.1.bl.2,p.2.wv,p.2.lv] U)):=(Below.refl _ _).alloc (Nat.le_refl _) _
 have hr2:=row_keep hrow (w':=w.alloc (.cells #[.int .i64 p.1.hd, .int .i64 p.1.bl.1, .int .i64 p.1.bl.2,p.2.wv,p.2.lv] U)) (fun k hk=>hb1.block k (World.ownsRow.lt hrow k hk).2)
 have hW:=Whole.new w #[.int .i64 p.1.hd, .int .i64 p.1.bl.1, .int .i64 p.1.bl.2,p.2.wv,p.2.lv] U
 obtain ⟨v',w',hrun,k1,k2,_,k4⟩:=run_append_own_at (P:=P) _ base t ty U i0 _ 5 72 ht hi hz0 hz1 hz2 hz (by omega) v os.length (ocs os) hr2 ⟨w.heap.size,0,none⟩ 1 1 (oc p) rfl
  (fun j u hj=>by rw [add_plain,Nat.zero_add,hW.cell];exact hj) (fun u hu=>by
   simp [oc] at hu
   rcases hu with rfl | rfl | rfl | rfl | rfl
   ·rfl
   ·rfl
   ·rfl
   ·exact h1
   ·exact h2) (by simp only [maxLen];omega) (by omega) (Nat.le_trans hbase hb1.size)
 refine ⟨v',w',hrun,k1,grown_trans (grown_below hb1 _) k2,?_⟩
 rcases k4 with k4 | k4
 ·exact .inl k4
 ·exact .inr ⟨_,k4,hb1.size⟩
theorem OwnV.oneCell {l:List Value} (h:OwnV U w base v l):v.oneCell'=true:=by
 rcases h.2 with ⟨rfl,_⟩ | ⟨g,cap,cur,rfl,_⟩ <;> rfl
end
end Go.Proofs.YtcodpnbemdflcaaGreatDoor

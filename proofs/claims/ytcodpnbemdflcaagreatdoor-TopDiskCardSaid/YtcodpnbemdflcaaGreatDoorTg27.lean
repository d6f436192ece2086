/-
  Bytes behind which more are laid: contracts of numbers, ints and text.
  The bytes of objects and of heaps: what is laid is read, and what is read was laid so. Plain mathematics, no program.
  What is free in a region is told by the objects, and found by going from place to place; the bytes of a heap tell the heap, the bytes of a state tell the state. Plain mathematics, no program.
  A reader that gives up where what has to come next does not come: contracts of giveUp, must, number and int.
  A reader reads an operation: seven ints.
  PutOp: seven ints; the document's own answer is the same bytes.
-/
import Derived.Test.YtcodpnbemdflcaaGreatDoorTg2
import Derived.Deep.RegionWith
import Derived.Deep.RegionLaw
import Derived.Test.YtcodpnbemdflcaaGreatDoorTg15
import Derived.Recover
import Derived.WalkLawsBesides
import Derived.Laws.Rows
import Derived.Laws.ResultCell
namespace Go.Proofs.YtcodpnbemdflcaaGreatDoor
open Go.RowKit
theorem step_app {P:Program} {ops:Array Oper} {o:Oper} {a:Act} {w w':World} {K:Act→World→Prop} {Q:Exit→Act→World→Prop} {E:Prop} {v y v':Value} {t u ty:TypeId}
  (hrun:(Builtin.append_ #[t,u] ty #[v,y]).run P w = .ok v' w') (hgd:o.guard=none) (s x:Operand)
  (ho:o.op = .call { callee := .builtin .append,args := #[s,x],argTypes := #[t,u] }) (hty:o.type=ty) (hs:a.eval s=v) (hx:a.eval x=y)
  (hK:K (a.put o.dst v') w'):if Region.wanted o (yielded ops a.tmps)=true then Oper.wp P o a w K Q else E:=by
 have hw:Region.wanted o (yielded ops a.tmps)=true:=by simp [Region.wanted,hgd]
 rw [if_pos hw]
 subst hty
 unfold Oper.wp execOp
 simp only [ho,resolve,invoke,builtin,Sem.run_bind,Sem.run_pure,Result.andThen_ok,List.map_toArray,List.map_cons,List.map_nil,hs,hx,hrun]
 exact hK
theorem append_two {P:Program} (w:World) (t u ty U:TypeId) (ht:P.underlying t=some (.slice U)) (hu:P.underlying u=some (.slice U)) (A:Option Addr) (n c:Nat) (y:Value) :
  (Builtin.append_ #[t,u] ty #[.slice A n c,y]).run P w=(Builtin.append_ #[u,u] ty #[.slice A n c,y]).run P w:=by
 simp [Builtin.append_,run_underlying ht,run_underlying hu]
theorem Own.ownV {U:TypeId} {w:World} {base:Nat} {v:Value} {l:List UInt8} (h:Own U w base v l):OwnV U w base v (bvs l):=by
 unfold OwnV
 rw [bvs_length]
 exact h
structure Laid (w:World) (b base:Nat) (v:Value) (bs:List UInt8):Prop where
 box:Whole w b 153 [v]
 own:Own 5 w base v bs
theorem Laid.ne {w:World} {b base:Nat} {v:Value} {bs:List UInt8} (h:Laid w b base v bs):v.ownBlock≠some b:=h.own.ownV.apart h.box (by decide)
theorem Laid.below {w w':World} {b base:Nat} {v:Value} {bs:List UInt8} (h:Laid w b base v bs) (hb:Below w.heap.size w w'):Laid w' b base v bs:=⟨h.box.below hb,h.own.below hb⟩
structure Left (w wr:World) (b:Nat) (v:Value):Prop where
 os:wr.os=w.os
 tape:wr.tape=w.tape
 output:wr.output=w.output
 size:w.heap.size≤wr.heap.size
 block : ∀ k,k < w.heap.size→k≠b→v.ownBlock≠some k→wr.heap[k]? = w.heap[k]?
structure Lays (w:World) (b base:Nat) (v:Value) (bs:List UInt8) (wr:World) (v':Value):Prop where
 laid:Laid wr b base v' bs
 left:Left w wr b v
 own : ∀ k,v'.ownBlock=some k→v.ownBlock=some k∨w.heap.size≤k
theorem Lays.refl {w:World} {b base:Nat} {v:Value} {bs:List UInt8} (h:Laid w b base v bs):Lays w b base v bs w v:=⟨h,⟨rfl,rfl,rfl,Nat.le_refl _,fun _ _ _ _=>rfl⟩,fun _ h => .inl h⟩
theorem Lays.trans {w w1 w2:World} {b base:Nat} {v v1 v2:Value} {bs cs:List UInt8} (h:Lays w b base v bs w1 v1) (k:Lays w1 b base v1 cs w2 v2):Lays w b base v cs w2 v2 :=
 ⟨k.laid,⟨k.left.os.trans h.left.os,k.left.tape.trans h.left.tape,k.left.output.trans h.left.output,Nat.le_trans h.left.size k.left.size,fun i hi hb hv=>by
  rw [k.left.block i (Nat.lt_of_lt_of_le hi h.left.size) hb (fun e=>(h.own i e).elim hv (fun q=>by omega)),h.left.block i hi hb hv]⟩,
  fun i hi=>(k.own i hi).elim (h.own i) (fun q => .inr (Nat.le_trans h.left.size q))⟩
theorem Lays.begin {w w1:World} {b base:Nat} {v:Value} {bs:List UInt8} (h:Laid w b base v bs) (hb:Below w.heap.size w w1):Lays w b base v bs w1 v :=
 ⟨h.below hb,⟨hb.os,hb.tape,hb.output,hb.size,fun k hk _ _=>hb.block k hk⟩,fun _ h => .inl h⟩
theorem Lays.below {w w1:World} {b base:Nat} {v v1:Value} {bs bs0:List UInt8} (h:Lays w b base v bs w1 v1) (h0:Laid w b base v bs0) (hb:base≤b) (hs:base≤w.heap.size):Below base w w1 :=
 ⟨h.left.os,h.left.tape,h.left.output,h.left.size,fun i hi=>h.left.block i (by omega) (by omega) fun e=>by have:=(h0.own.lt i e).1;omega⟩
theorem RdV.left {w wr:World} {b:Nat} {v:Value} {A:Option Addr} {n:Nat} {xs:List Value} (h:RdV w A n xs) (hl:Left w wr b v) (hA : ∀ a,A=some a→a.block≠b∧v.ownBlock≠some a.block):RdV wr A n xs :=
 ⟨h.len,fun hn=>by
  obtain ⟨g,off,e,hlt,hc⟩:=h.at_ hn
  obtain ⟨h1,h2⟩:=hA _ e
  exact ⟨g,off,e,Nat.lt_of_lt_of_le hlt hl.size,fun j x hx=>by
   rw [World.cell?_of_block (w:=w) (hl.block g hlt h1 h2)]
   exact hc j x hx⟩⟩
def Off (A:Option Addr) (b:Nat) (v:Value) (m:Nat):Prop := ∀ a,A=some a→a.block≠b∧v.ownBlock≠some a.block∧a.block < m
theorem Off.lays {A:Option Addr} {w wr:World} {b base:Nat} {v v':Value} {bs:List UInt8} {m:Nat} (h:Off A b v m) (hm:m≤w.heap.size) (k:Lays w b base v bs wr v'):Off A b v' m:=fun a e =>
 ⟨(h a e).1,fun q=>(k.own _ q).elim (h a e).2.1 (fun q=>by have:=(h a e).2.2;omega),(h a e).2.2⟩
theorem Off.new {w:World} {b base:Nat} {v:Value} {bs:List UInt8} {t:Nat} {k m:Nat} (h:Laid w b base v bs) (hk:w.heap.size≤k) (hm:k < m):Off (some ⟨k,t,none⟩) b v m:=fun a e=>by
 injection e with e
 subst e
 have:=h.box.lt
 exact ⟨by simp only;omega,fun q=>by have:=(h.own.lt _ q).2;simp only at this;omega,hm⟩
theorem laid_step {w w1 w2:World} {b base:Nat} {v v2:Value} {bs cs:List UInt8} (h:Laid w b base v bs) (hb:Below w.heap.size w w1) (hown:Own 5 w2 base v2 (bs++cs)) (hg:w1.grownBy w2 v.ownBlock) (hor:v2.ownBlock=v.ownBlock∨v2.ownBlock=some w1.heap.size) :
  Lays w b base v (bs++cs) (w2.setCell ⟨b,0,none⟩ v2) v2:=by
 have hne:=h.ne
 have hbl:=h.box.lt
 have k1:Whole w1 b 153 [v]:=h.box.below hb
 have k2:Whole w2 b 153 [v]:=k1.keep (hg.block b k1.lt (by simpa using hne.symm))
 have hs:=hb.size
 have hne2:v2.ownBlock≠some b:=by
  rcases hor with e | e
  ·rw [e];exact hne
  ·rw [e];intro q;injection q with q;omega
 refine ⟨⟨k2.set 0 v2,hown.keep fun k hk=>heap_setCell_other w2 ⟨b,0,none⟩ k v2 (fun e=>hne2 (by rw [hk,e]))⟩,⟨hg.os.trans hb.os,hg.tape.trans hb.tape,hg.output.trans hb.output,by simp only [World.setCell,Array.size_modify];exact Nat.le_trans hs hg.size,fun k hk h1 h2 => ?_⟩,fun k hk => ?_⟩
 ·rw [heap_setCell_other w2 ⟨b,0,none⟩ k v2 (by simpa using h1),hg.block k (by omega) (by simpa using fun e=>h2 e.symm),hb.block k hk]
 ·rcases hor with e | e
  ·exact .inl (e ▸ hk)
  ·rw [e] at hk
   injection hk with hk
   exact .inr (by omega)
theorem laid_app (ty:TypeId) {wr w1:World} {b base:Nat} {A2 A1:Option Addr} {m2 c2 m c1:Nat} {cs news:List UInt8} (L:Laid wr b base (.slice A2 m2 c2) cs) (hb:Below wr.heap.size wr w1) (hrd:Rd w1 A1 m news) (hm:cs.length+m≤140737488355328) (hbase:base≤wr.heap.size) :
  ∃ A3 n3 c3 w2,(Builtin.append_ #[153,93] ty #[.slice A2 m2 c2, .slice A1 m c1]).run Tryz.prog w1 = .ok (.slice A3 n3 c3) w2∧w2.cell? ⟨b,0,none⟩=some (.slice A2 m2 c2)∧w2.frozen? ⟨b,0,none⟩=false∧Lays wr b base (.slice A2 m2 c2) (cs++news) (w2.setCell ⟨b,0,none⟩ (.slice A3 n3 c3)) (.slice A3 n3 c3):=by
 have L2:=L.below hb
 obtain ⟨v2,w2,hap,hown2,hg2,hor⟩:=run_app (P:=Tryz.prog) base 93 ty 5 Tryz.underlying93 Tryz.infoU8 (.slice A2 m2 c2) _ L2.own A1 m c1 news hrd hm (Nat.le_trans hbase hb.size)
 rw [← append_two _ 153 _ _ 5 Tryz.underlying153 Tryz.underlying93] at hap
 have k2:Whole w2 b 153 [.slice A2 m2 c2]:=L2.box.keep (hg2.block b L2.box.lt (by simpa using L2.ne.symm))
 obtain ⟨A3,c3,rfl,_,_,_⟩:=hown2.shape
 exact ⟨A3,_,c3,w2,hap,k2.cell 0,k2.free 0,laid_step L hb hown2 hg2 hor⟩
def NumRel (enc:Int→List UInt8) (w:World) (b base n:Nat) (v:Value) (bs:List UInt8) (ns:List Int) (i:Value) (wr:World):Prop :=
 ∃ (k:Nat) (v':Value),k≤n∧i = .int .i64 (k:Int)∧Lays w b base v (bs++(ns.take k).flatMap enc) wr v'
def LaidPost (w:World) (b base:Nat) (v:Value) (bs:List UInt8) (e:Ending) (wr:World):Prop := ∃ v',e = .returned (.tuple #[])∧Lays w b base v bs wr v'
theorem take_flat {α β:Type} {l:List α} {k:Nat} {x:α} (f:α→List β) (h:l[k]? = some x):(l.take (k+1)).flatMap f=(l.take k).flatMap f++f x:=by
 rw [List.take_add_one,h,List.flatMap_append]
 simp
def intvs (l:List Int):List Value:=l.map fun x => .int .i64 x
theorem intvs_get {l:List Int} {k:Nat} {u:Value} (h:(intvs l)[k]? = some u) : ∃ x,l[k]? = some x∧u = .int .i64 x:=by
 unfold intvs at h
 rw [List.getElem?_map] at h
 cases e:l[k]? with
 | none=>rw [e] at h;cases h
 | some x =>
  rw [e] at h
  injection h with h
  exact ⟨x,rfl,h.symm⟩
theorem intvs_length (l:List Int):(intvs l).length=l.length:=by simp [intvs]
theorem flat_len {α:Type} {enc:α→List UInt8} {m:Nat} (h : ∀ v,(enc v).length=m) : ∀ l:List α,(l.flatMap enc).length=m*l.length
 | []=>rfl
 | a :: t=>by rw [List.flatMap_cons,List.length_append,h,flat_len h t,List.length_cons,Nat.mul_add,Nat.mul_one,Nat.add_comm]
set_option maxHeartbeats 2000000 in
theorem numbers_any (A:Option Addr) (n c:Nat) (ns:List Int) (b base:Nat) (v:Value) (bs:List UInt8) (w:World) (h:RdV w A n (intvs ns)) (hA:Off A b v w.heap.size) (hN : ∀ x ∈ ns,IsNum x) (hL:Laid w b base v bs) (hbase:base≤w.heap.size) (hn:n≤10000) (hbs:bs.length≤1000000) :
  Calls Tryz.prog 213 #[.pointer (some ⟨b,0,none⟩), .slice A n c] w (LaidPost w b base v (bs++ns.flatMap encN)):=by
 have hlen:=h.len
 have HR:=Lib.hid h
 have HL:=Lib.hid hL
 clear h hL
 go_enter Tryz.func213,Tryz.ntmps213
 go_wp2
 go_loopw [10] (NumRel encN w b base n v bs ns) (fun i _=>n - (intOf i).toNat)
 case atStart=>exact ⟨0,v,Nat.zero_le _,rfl,by simpa using Lays.refl HL.out⟩
 case round =>
  obtain ⟨k,v',hk,rfl,hlay⟩:=hrel
  have Hlay:=Lib.hid hlay
  clear hlay
  by_cases hlt:k < n
  ·have hki:(k:Int) < (n:Int):=by omega
   have hrd:=HR.out.left Hlay.out.left (fun a e=>⟨(hA a e).1,(hA a e).2.1⟩)
   obtain ⟨b',off,x0,rfl,hbl,hx,hc0⟩:=hrd.cell hlt
   obtain ⟨x,hxs,rfl⟩:=intvs_get hx
   have hxn:=hN x (List.mem_of_getElem? hxs)
   have Hput:=Lib.hid (putNumber_yes none 0 0 [] x wr Rd.nil (by omega) hxn.1 hxn.2)
   have hl1:(bs++(ns.take k).flatMap encN).length≤2000000:=by rw [List.length_append,flat_len encN_length,List.length_take];omega
   have Htk:=Lib.hid (take_flat encN hxs)
   obtain ⟨A2,c2,rfl,hc2,hm2,hrd2⟩:=Hlay.out.laid.own.shape
   have b0:=Hlay.out.laid.box.cell 0
   generalize (bs++(ns.take k).flatMap encN).length=m2 at *
   clear hrd hx hxs
   go_wp2_with fail
   refine Calls.mono Hput.out ?_
   rintro e w1 ⟨v1,rfl,hown1,hb1⟩
   obtain ⟨A1,c1,rfl,hc1,hm1,hrd1⟩:=hown1.shapeN (n:=4) (by simp [be_length])
   have b1:=(Hlay.out.laid.box.below hb1).cell 0
   obtain ⟨A3,n3,c3,w2,hap,b2,z2,hl2⟩:=laid_app 153 (c1:=c1) Hlay.out.laid hb1 hrd1 (by rw [← hrd2.len] at hl1;omega) (Nat.le_trans hbase Hlay.out.left.size)
   have Hl2:=Lib.hid hl2
   clear hl2 hrd1 hrd2 hown1 hb1 hc0 b0
   go_wp2_with (at_builtin;refine wpList_append_run hap rfl _ _ rfl rfl rfl rfl ?_)
   go_roundw
   case rel=>exact ⟨k+1,_,by omega,by go_num,Hlay.out.trans (by have:=Hl2.out;rw [List.nil_append,List.append_assoc] at this;rw [Htk.out];exact this)⟩
   case measure=>simp [intOf];omega
  ·obtain rfl:k=n:=by omega
   have Hl2:=Lib.hid (show Lays w b base v (bs++ns.flatMap encN) wr v' from by
    have:=Hlay.out
    rwa [List.take_of_length_le (by rw [← hlen,intvs_length];exact Nat.le_refl _)] at this)
   clear Hlay hlen
   go_wp2
   first | go_end0 | refine bodyPost_ret (results_none rfl _ _ _) rfl ?_
   exact ⟨v',rfl,Hl2.out⟩
set_option maxRecDepth 100000 in
set_option maxHeartbeats 2000000 in
theorem ints_any (A:Option Addr) (n c:Nat) (ns:List Int) (b base:Nat) (v:Value) (bs:List UInt8) (w:World) (h:RdV w A n (intvs ns)) (hA:Off A b v w.heap.size) (hL:Laid w b base v bs) (hbase:base≤w.heap.size) (hn:n≤10000) (hbs:bs.length≤1000000) :
  Calls Tryz.prog 137 #[.pointer (some ⟨b,0,none⟩), .slice A n c] w (LaidPost w b base v (bs++ns.flatMap encI)):=by
 have hlen:=h.len
 have HR:=Lib.hid h
 have HL:=Lib.hid hL
 clear h hL
 go_enter Tryz.func137,Tryz.ntmps137
 go_wp2
 go_loopw [8] (NumRel encI w b base n v bs ns) (fun i _=>n - (intOf i).toNat)
 case atStart=>exact ⟨0,v,Nat.zero_le _,rfl,by simpa using Lays.refl HL.out⟩
 case round =>
  obtain ⟨k,v',hk,rfl,hlay⟩:=hrel
  have Hlay:=Lib.hid hlay
  clear hlay
  by_cases hlt:k < n
  ·have hki:(k:Int) < (n:Int):=by omega
   have hrd:=HR.out.left Hlay.out.left (fun a e=>⟨(hA a e).1,(hA a e).2.1⟩)
   obtain ⟨b',off,x0,rfl,hbl,hx,hc0⟩:=hrd.cell hlt
   obtain ⟨x,hxs,rfl⟩:=intvs_get hx
   have Hput:=Lib.hid (putInt_any none 0 0 [] x wr.drew Rd.nil (by omega))
   have hl1:(bs++(ns.take k).flatMap encI).length≤2000000:=by rw [List.length_append,flat_len encI_length,List.length_take];omega
   have Htk:=Lib.hid (take_flat encI hxs)
   obtain ⟨A2,c2,rfl,hc2,hm2,hrd2⟩:=Hlay.out.laid.own.shape
   have b0:=Hlay.out.laid.box.cell 0
   generalize (bs++(ns.take k).flatMap encI).length=m2 at *
   clear hrd hx hxs
   go_wp2_with fail
   go_region_law (first | (refine step_app hap rfl (.tmp 15) (.tmp 17) rfl rfl rfl rfl ?_) | (rw [if_pos (by simp [Region.wanted])];unfold Oper.wp;go_simp;refine Calls.mono Hput.out ?_;rintro e w1 ⟨v1,rfl,hown1,hb0⟩;have hb1:Below wr.heap.size wr w1:=(Below.refl wr.heap.size wr).drew.trans hb0;obtain ⟨A1,c1,rfl,hc1,hm1,hrd1⟩:=hown1.shapeN (n:=8) (by simp [be_length]);have b1:=(Hlay.out.laid.box.below hb1).cell 0;obtain ⟨A3,n3,c3,w2,hap,b2,z2,hl2⟩:=laid_app 153 (c1:=c1) Hlay.out.laid hb1 hrd1 (by rw [← hrd2.len] at hl1;omega) (Nat.le_trans hbase Hlay.out.left.size);have Hl2:=Lib.hid hl2;clear hl2 hrd1 hrd2 hown1 hb0 hb1 hc0 b0;dsimp only))
   all_goals go_wp2
   all_goals
    go_roundw
    case rel=>exact ⟨k+1,_,by omega,by go_num,Hlay.out.trans (by have:=Hl2.out;rw [List.nil_append,List.append_assoc] at this;rw [Htk.out];exact this)⟩
    case measure=>simp [intOf];omega
  ·obtain rfl:k=n:=by omega
   have Hl2:=Lib.hid (show Lays w b base v (bs++ns.flatMap encI) wr v' from by
    have:=Hlay.out
    rwa [List.take_of_length_le (by rw [← hlen,intvs_length];exact Nat.le_refl _)] at this)
   clear Hlay hlen
   go_wp2
   first | go_end0 | refine bodyPost_ret (results_none rfl _ _ _) rfl ?_
   exact ⟨v',rfl,Hl2.out⟩
end Go.Proofs.YtcodpnbemdflcaaGreatDoor
namespace Go.Proofs.YtcodpnbemdflcaaGreatDoor
open Go.RowKit
def encO (x:Ob):List UInt8:=encN x.hd++(encN x.bl.1++(encN (x.ws.length:Int)++(encN (x.ls.length:Int)++(x.ws.flatMap encI++x.ls.flatMap encN))))
def DomO (x:Ob):Prop:=IsNum x.hd∧IsNum x.bl.1∧x.bl.2=needI x.ws.length x.ls.length∧x.ws.length≤32∧x.ls.length≤16∧(∀ n ∈ x.ws,IsInt n) ∧ ∀ n ∈ x.ls,IsNum n
def pobj2 (hd a w k:Int):Prs Ob:=fun l =>
 if 32 < w then none else (prep pint w.toNat l).bind fun s=>if 16 < k then none else (prep pnum k.toNat s.2).bind fun t=>some (⟨hd,(a,needI w k),s.1,t.1⟩,t.2)
def pobj:Prs Ob:=fun l =>
 (pnum l).bind fun hd=>(pnum hd.2).bind fun a=>(pnum a.2).bind fun w=>(pnum w.2).bind fun k=>pobj2 hd.1 a.1 w.1 k.1 k.2
theorem flat_length {α:Type} {enc:α→List UInt8} {m:Nat} (h : ∀ v,(enc v).length=m) : ∀ l:List α,(l.flatMap enc).length=m*l.length
 | []=>rfl
 | a :: t=>by rw [List.flatMap_cons,List.length_append,h,flat_length h t,List.length_cons,Nat.mul_add,Nat.mul_one,Nat.add_comm]
theorem pobj_codec:Codec pobj encO DomO where
 full x r h:=by
  obtain ⟨h1,h2,h3,h4,h5,h6,h7⟩:=h
  obtain ⟨hd,⟨a,o⟩,ws,ls⟩:=x
  simp only at h1 h2 h3 h4 h5 h6 h7
  subst h3
  unfold pobj encO
  simp only [List.append_assoc]
  rw [pnum_codec.full _ _ h1,Option.bind_some]
  simp only
  rw [pnum_codec.full _ _ h2,Option.bind_some]
  simp only
  rw [pnum_codec.full _ _ (show IsNum (ws.length:Int) from ⟨by omega,by omega⟩),Option.bind_some]
  simp only
  rw [pnum_codec.full _ _ (show IsNum (ls.length:Int) from ⟨by omega,by omega⟩),Option.bind_some]
  simp only
  unfold pobj2
  rw [if_neg (by omega),Int.toNat_natCast,(prep_codec pint_codec _).full ws _ ⟨rfl,h6⟩,Option.bind_some]
  simp only
  rw [if_neg (by omega),Int.toNat_natCast,(prep_codec pnum_codec _).full ls _ ⟨rfl,h7⟩]
  rfl
 sound l x r h:=by
  unfold pobj at h
  cases e1:pnum l with
  | none=>rw [e1] at h;cases h
  | some hd =>
   rw [e1,Option.bind_some] at h
   cases e2:pnum hd.2 with
   | none=>rw [e2] at h;cases h
   | some a =>
    rw [e2,Option.bind_some] at h
    cases e3:pnum a.2 with
    | none=>rw [e3] at h;cases h
    | some w =>
     rw [e3,Option.bind_some] at h
     cases e4:pnum w.2 with
     | none=>rw [e4] at h;cases h
     | some k =>
      rw [e4,Option.bind_some] at h
      unfold pobj2 at h
      split at h
      ·cases h
      ·rename_i hw
       cases e5:prep pint w.1.toNat k.2 with
       | none=>rw [e5] at h;cases h
       | some s =>
        rw [e5,Option.bind_some] at h
        split at h
        ·cases h
        ·rename_i hk
         cases e6:prep pnum k.1.toNat s.2 with
         | none=>rw [e6] at h;cases h
         | some t =>
          rw [e6,Option.bind_some] at h
          injection h with h
          injection h with f1 f2
          subst f1 f2
          obtain ⟨d1,q1⟩:=pnum_codec.sound _ _ _ e1
          obtain ⟨d2,q2⟩:=pnum_codec.sound _ _ _ e2
          obtain ⟨d3,q3⟩:=pnum_codec.sound _ _ _ e3
          obtain ⟨d4,q4⟩:=pnum_codec.sound _ _ _ e4
          obtain ⟨d5,q5⟩:=(prep_codec pint_codec _).sound _ _ _ e5
          obtain ⟨d6,q6⟩:=(prep_codec pnum_codec _).sound _ _ _ e6
          have n5:(s.1.length:Int)=w.1:=by rw [d5.1];exact Int.toNat_of_nonneg d3.1
          have n6:(t.1.length:Int)=k.1:=by rw [d6.1];exact Int.toNat_of_nonneg d4.1
          refine ⟨⟨d1,d2,?_,?_,?_,d5.2,d6.2⟩,?_⟩
          ·simp only;rw [n5,n6]
          ·simp only;omega
          ·simp only;omega
          ·unfold encO
           simp only
           rw [n5,n6,q1,q2,q3,q4,q5,q6]
           simp only [List.append_assoc]
def encH (h:Hp):List UInt8:=encN h.od++(encN h.nx++(h.tp.flatMap encN++(encN (h.obs.length:Int)++h.obs.flatMap encO)))
def DomH (g:Int→Int→Bool) (h:Hp):Prop:=IsNum h.od∧IsNum h.nx∧(h.tp.length=4 ∧ ∀ t ∈ h.tp,IsNum t)∧IsNum (h.obs.length:Int)∧g h.od h.obs.length=true∧(∀ x ∈ h.obs,DomO x)∧h.fr = []
def praw (g:Int→Int→Bool):Prs Hp:=fun l =>
 (pnum l).bind fun od=>(pnum od.2).bind fun nx=>(prep pnum 4 nx.2).bind fun tp=>(pnum tp.2).bind fun n =>
  if g od.1 n.1 then (prep pobj n.1.toNat n.2).bind fun s=>some (⟨od.1,s.1,nx.1,tp.1, []⟩,s.2) else none
theorem praw_codec (g:Int→Int→Bool):Codec (praw g) encH (DomH g) where
 full x r h:=by
  obtain ⟨h1,h2,h3,h4,h5,h6,h7⟩:=h
  obtain ⟨od,obs,nx,tp,fr⟩:=x
  simp only at h1 h2 h3 h4 h5 h6 h7
  subst h7
  unfold praw encH
  simp only [List.append_assoc]
  rw [pnum_codec.full _ _ h1,Option.bind_some]
  simp only
  rw [pnum_codec.full _ _ h2,Option.bind_some]
  simp only
  rw [(prep_codec pnum_codec 4).full _ _ h3,Option.bind_some]
  simp only
  rw [pnum_codec.full _ _ h4,Option.bind_some]
  simp only
  rw [if_pos h5,Int.toNat_natCast,(prep_codec pobj_codec _).full obs _ ⟨rfl,h6⟩]
  rfl
 sound l x r h:=by
  unfold praw at h
  cases e1:pnum l with
  | none=>rw [e1] at h;cases h
  | some od =>
   rw [e1,Option.bind_some] at h
   cases e2:pnum od.2 with
   | none=>rw [e2] at h;cases h
   | some nx =>
    rw [e2,Option.bind_some] at h
    cases e3:prep pnum 4 nx.2 with
    | none=>rw [e3] at h;cases h
    | some tp =>
     rw [e3,Option.bind_some] at h
     cases e4:pnum tp.2 with
     | none=>rw [e4] at h;cases h
     | some n =>
      rw [e4,Option.bind_some] at h
      split at h
      ·rename_i hg
       cases e5:prep pobj n.1.toNat n.2 with
       | none=>rw [e5] at h;cases h
       | some s =>
        rw [e5,Option.bind_some] at h
        injection h with h
        injection h with f1 f2
        subst f1 f2
        obtain ⟨d1,q1⟩:=pnum_codec.sound _ _ _ e1
        obtain ⟨d2,q2⟩:=pnum_codec.sound _ _ _ e2
        obtain ⟨d3,q3⟩:=(prep_codec pnum_codec 4).sound _ _ _ e3
        obtain ⟨d4,q4⟩:=pnum_codec.sound _ _ _ e4
        obtain ⟨d5,q5⟩:=(prep_codec pobj_codec _).sound _ _ _ e5
        have n5:(s.1.length:Int)=n.1:=by rw [d5.1];exact Int.toNat_of_nonneg d4.1
        refine ⟨⟨d1,d2,d3,?_,?_,d5.2,rfl⟩,?_⟩
        ·simp only;rw [n5];exact d4
        ·simp only;rw [n5];exact hg
        ·unfold encH
         simp only
         rw [n5,q1,q2,q3,q4,q5]
         simp only [List.append_assoc]
      ·cases h
end Go.Proofs.YtcodpnbemdflcaaGreatDoor
namespace Go.Proofs.YtcodpnbemdflcaaGreatDoor
open Go.RowKit
theorem mapped_apartI {r:Int} : ∀ (n:Nat) (fs:List Blk),fs.length=n→(∀ b ∈ fs,May r b)→fs.Pairwise (fun a b => ¬ Meets b a) → ∃ m,Mapped r fs m∧(countL m:Int)=sumL fs
 | 0,fs,hn,_,_=>by
  obtain rfl:fs = []:=List.eq_nil_of_length_eq_zero hn
  have hmp:=mapped_nil r
  refine ⟨_,hmp,?_⟩
  unfold countL
  rw [cnt_all _ false _ fun i hi=>by
   cases e:isOn (List.replicate (sz r).toNat false) i with
   | false=>rfl
   | true=>obtain ⟨c,hc,_⟩:=(hmp.2 i hi).1 e;cases hc]
  simp [sumL]
 | n+1,fs,hn,hM,hA=>by
  obtain ⟨fs',b,rfl⟩ : ∃ f b,fs=f ++ [b]:=⟨fs.dropLast,fs.getLast (by intro e;rw [e] at hn;simp at hn),(List.dropLast_concat_getLast _).symm⟩
  have hn':fs'.length=n:=by simp at hn;exact hn
  obtain ⟨hA1,_,hA2⟩:=List.pairwise_append.1 hA
  obtain ⟨m,hm,hc⟩:=mapped_apartI n fs' hn' (fun c hc=>hM c (List.mem_append_left _ hc)) hA1
  have hMb:=hM b (by simp)
  have hb2 : ∀ c ∈ fs', ¬ Meets b c:=fun c hc=>hA2 c hc b (by simp)
  obtain ⟨p1,_,p3⟩:=hm.put hMb
  refine ⟨_,p3,?_⟩
  obtain ⟨k0,k1,k2,k3,k4⟩:=hMb
  have hp:=sz_pos b.2
  have hml:=hm.1
  rw [sumL_snoc,p1]
  unfold countL
  rw [putL_length]
  have:=cnt_put (f:=isOn m) (g:=isOn (putL m b.1.toNat (sz b.2).toNat true)) (a:=b.1.toNat) (n:=(sz b.2).toNat) (k:=m.length - (b.1.toNat+(sz b.2).toNat)) (fun i hi hj=>by
   cases e:isOn m i with
   | false=>rfl
   | true =>
    obtain ⟨c,hc,hx⟩:=(hm.2 i (by omega)).1 e
    exact absurd (meets_of (show InB b (i:Int) from ⟨by omega,by omega⟩) hx) (hb2 c hc)) (fun i hi=>putL_isOn _ _ _ _ (by omega))
  rw [show b.1.toNat+(sz b.2).toNat+(m.length - (b.1.toNat+(sz b.2).toNat))=m.length by omega] at this
  unfold countL at hc
  rw [this]
  omega
def allBI (H:Hp):List Blk:=H.obs.map Ob.bl++H.fr
theorem RightH.allI {H:Hp} (k:RightH H):(∀ b ∈ allBI H,May H.od b)∧(allBI H).Pairwise (fun a b => ¬ Meets b a)∧sumL (allBI H)=sz H.od:=by
 refine ⟨fun b hb => ?_,?_,?_⟩
 ·rcases List.mem_append.1 hb with e | e
  ·obtain ⟨x,hx,rfl⟩:=List.mem_map.1 e
   exact (k.ok x hx).2.2.2.1
  ·exact k.fr.may e
 ·have h:=k.apart
  unfold blks at h
  rw [List.pairwise_append] at h
  unfold allBI
  rw [List.pairwise_append]
  exact ⟨h.2.1,h.1,fun a ha b hb e=>h.2.2 b hb a ha ⟨e.2,e.1⟩⟩
 ·have h:=k.sum
  unfold blks at h
  rw [sumL_append] at h
  unfold allBI
  rw [sumL_append]
  omega
theorem cnt_full {f:Nat→Bool} : ∀ {n:Nat},cnt f n=n → ∀ k,k < n→f k=true
 | 0,_,k,hk=>absurd hk (Nat.not_lt_zero _)
 | n+1,h,k,hk=>by
  have h1:cnt f (n+1)=cnt f n+(f n).toNat:=rfl
  have h2:=cnt_le f n
  have h3:(f n).toNat≤1:=by cases f n <;> simp
  by_cases hkn:k < n
  ·exact cnt_full (n:=n) (by omega) k hkn
  ·obtain rfl:k=n:=by omega
   cases e:f k with
   | true=>rfl
   | false =>
    rw [e] at h1
    simp only [Bool.toNat_false,Nat.add_zero] at h1
    omega
theorem RightH.cov {H:Hp} (k:RightH H) {x:Int} (h0:0≤x) (h1:x < sz H.od):Cov (allBI H) x:=by
 obtain ⟨a1,a2,a3⟩:=k.allI
 obtain ⟨m,hm,hc⟩:=mapped_apartI _ _ rfl a1 a2
 have hl:=hm.1
 have hf:cnt (isOn m) m.length=m.length:=by unfold countL at hc;omega
 have h2:=(hm.2 x.toNat (by omega)).1 (cnt_full hf x.toNat (by omega))
 rwa [Int.toNat_of_nonneg h0] at h2
structure FreeOf (od:Int) (bs F:List Blk):Prop where
 right:Right od F
 may : ∀ b ∈ bs,May od b
 apart:bs.Pairwise (fun a b => ¬ Meets b a)
 cov : ∀ x,Cov F x ↔ 0≤x∧x < sz od ∧ ¬ Cov bs x
theorem May.words {r:Int} {b:Blk} (h:May r b) {x:Int} (hx:InB b x):0≤x∧x < sz r:=by
 have:=h.2.2.1
 have:=h.2.2.2.1
 unfold InB at hx
 omega
theorem RightH.freeOf {H:Hp} (k:RightH H):FreeOf H.od (H.obs.map Ob.bl) H.fr where
 right:=k.fr
 may b hb:=by
  obtain ⟨x,hx,rfl⟩:=List.mem_map.1 hb
  exact (k.ok x hx).2.2.2.1
 apart:=by
  have:=k.apart
  unfold blks at this
  exact (List.pairwise_append.1 this).2.1
 cov x:=by
  constructor
  ·rintro ⟨b,hb,hx⟩
   obtain ⟨h0,h1⟩:=(k.fr.may hb).words hx
   refine ⟨h0,h1,fun ⟨c,hc,hcx⟩ => ?_⟩
   obtain ⟨y,hy,rfl⟩:=List.mem_map.1 hc
   exact k.cross hb hy (meets_of hcx hx)
  ·rintro ⟨h0,h1,hn⟩
   obtain ⟨b,hb,hx⟩:=k.cov h0 h1
   rcases List.mem_append.1 hb with e | e
   ·exact absurd ⟨b,e,hx⟩ hn
   ·exact ⟨b,e,hx⟩
theorem FreeOf.uniq {od:Int} {bs F G:List Blk} (h:FreeOf od bs F) (k:FreeOf od bs G):F=G:=canon h.right k.right fun x=>by rw [h.cov,k.cov]
theorem cov_perm {l m:List Blk} (h:l.Perm m) (x:Int):Cov l x ↔ Cov m x:=⟨fun ⟨b,hb,hx⟩=>⟨b,h.mem_iff.1 hb,hx⟩,fun ⟨b,hb,hx⟩=>⟨b,h.mem_iff.2 hb,hx⟩⟩
theorem FreeOf.perm {od:Int} {bs cs F:List Blk} (h:FreeOf od bs F) (p:bs.Perm cs):FreeOf od cs F where
 right:=h.right
 may b hb:=h.may b (p.mem_iff.2 hb)
 apart:=p.pairwise h.apart fun q=>meets_symm q
 cov x:=by rw [h.cov,cov_perm p]
structure Part (F:List Blk) (p:Int) (k:Nat):Prop where
 le:k≤F.length
 front : ∀ b ∈ F.take k,b.1+sz b.2≤p
 back : ∀ b ∈ F.drop k,p≤b.1
theorem Part.start {r:Int} {F:List Blk} (h:Right r F):Part F 0 0:=⟨Nat.zero_le _,fun b hb=>by simp at hb,fun b hb=>(h.may (List.mem_of_mem_drop hb)).2.2.1⟩
theorem Part.at_ {F:List Blk} {p:Int} {k:Nat} (h:Part F p k) (hR:F.Pairwise (fun a b=>a.1 < b.1)) (hc:Cov F p) : ∃ B,F[k]? = some B∧B.1=p:=by
 obtain ⟨B,hB,hx⟩:=hc
 have hB':=hB
 rw [← List.take_append_drop k F] at hB'
 rcases List.mem_append.1 hB' with e | e
 ·have:=h.front B e
  unfold InB at hx
  omega
 ·have h1:=h.back B e
  have h2:B.1=p:=by unfold InB at hx;omega
  have hk:k < F.length:=by
   rcases Nat.lt_or_ge k F.length with q | q
   ·exact q
   ·rw [List.drop_eq_nil_of_le q] at e
    cases e
  refine ⟨F[k],List.getElem?_eq_getElem hk,?_⟩
  have hd:F.drop k=F[k] :: F.drop (k+1):=List.drop_eq_getElem_cons hk
  have hCk:p≤F[k].1:=h.back _ (by rw [hd];exact List.mem_cons_self ..)
  rw [hd] at e
  rcases List.mem_cons.1 e with q | q
  ·rw [← q];exact h2
  ·have hs:(F.drop k).Pairwise (fun a b=>a.1 < b.1):=hR.sublist (List.drop_sublist ..)
   rw [hd,List.pairwise_cons] at hs
   have:=hs.1 B q
   omega
theorem Part.step {r:Int} {F:List Blk} {p:Int} {k:Nat} (h:Part F p k) (hR:Right r F) {B:Blk} (hB:F[k]? = some B) (hp:B.1=p):Part F (p+sz B.2) (k+1)∧F.take (k+1)=F.take k ++ [B]:=by
 have hk:k < F.length:=(List.getElem?_eq_some_iff.1 hB).1
 have hBe:F[k]=B:=(List.getElem?_eq_some_iff.1 hB).2
 have ht:F.take (k+1)=F.take k ++ [B]:=by rw [List.take_add_one,hB];rfl
 have hz:=sz_pos B.2
 refine ⟨⟨hk,fun b hb => ?_,fun b hb => ?_⟩,ht⟩
 ·rw [ht] at hb
  rcases List.mem_append.1 hb with e | e
  ·have:=h.front b e
   omega
  ·rw [List.mem_singleton.1 e]
   omega
 ·have hs:(F.drop k).Pairwise (Ahd r):=hR.2.2.sublist (List.drop_sublist ..)
  rw [List.drop_eq_getElem_cons hk,hBe,List.pairwise_cons] at hs
  obtain ⟨a1,a2,_⟩:=hs.1 b hb
  rcases Int.lt_or_le b.1 (p+sz B.2) with q | q
  ·refine absurd ⟨?_,?_⟩ a2
   ·omega
   ·have:=sz_pos b.2
    omega
  ·exact q
theorem Part.skip {F:List Blk} {p q:Int} {k:Nat} (h:Part F p k) (hpq:p≤q) (hn : ∀ x,p≤x→x < q → ¬ Cov F x):Part F q k :=
 ⟨h.le,fun b hb=>by have:=h.front b hb;omega,fun b hb=>by
  have h1:=h.back b hb
  rcases Int.lt_or_le b.1 q with e | e
  ·exact absurd ⟨b,List.mem_of_mem_drop hb,self_in b⟩ (hn b.1 h1 e)
  ·exact e⟩
theorem Part.done {r:Int} {F:List Blk} {k:Nat} (hR:Right r F) (h:Part F (sz r) k):F.take k=F:=by
 refine List.take_of_length_le ?_
 rcases Nat.lt_or_ge k F.length with q | q
 ·have h1:=h.back F[k] (by rw [List.drop_eq_getElem_cons q];exact List.mem_cons_self ..)
  have h2:=(hR.may (List.getElem_mem q)).words (self_in F[k])
  omega
 ·exact q
theorem Right.greatest {r:Int} {F:List Blk} (h:Right r F) {B:Blk} (hB:B ∈ F) {o:Int} (h0:0≤o) (hr:o≤r) (hm:B.1 % sz o=0) (hc : ∀ x,B.1≤x→x < B.1+sz o→Cov F x):o≤B.2:=by
 obtain ⟨b,hb,h1,h2⟩:=full h o.toNat (B.1,o) (by simp only;omega) hr hm fun x hx=>hc x hx.1 hx.2
 have hp:=sz_pos o
 have hpb:=sz_pos B.2
 simp only at h1 h2
 have e:b=B:=h.one hb hB (x:=B.1) ⟨h1,by omega⟩ (self_in B)
 subst e
 have hr8:=h.1.2
 have hM:=h.may hB
 exact sz_inj h0 (by omega) hM.1 (by have:=hM.2.1;omega) (by omega)
structure ImH (H:Hp):Prop where
 right:RightH H
 tp:H.tp.length=4
 ints : ∀ x ∈ H.obs, ∀ n ∈ x.ws,IsInt n
theorem RightH.lead {H:Hp} (k:RightH H) {t:Int} (h:Leads H t):IsNum t∧t≤1000000:=by
 have:=k.nx
 unfold IsNum
 rcases h with e | ⟨x,hx,e⟩
 ·omega
 ·have:=k.ok x hx
  have:=this.1
  have:=(k.ok x hx).2.1
  omega
theorem ImH.domO {H:Hp} (k:ImH H) {x:Ob} (hx:x ∈ H.obs):DomO x:=by
 obtain ⟨o1,o2,o3,o4,o5⟩:=k.right.ok x hx
 have hn:=k.right.nx
 have h8:=k.right.fr.1
 have hw:=o4.words (self_in x.bl)
 have hz:=sz_le256 (o:=H.od) (by omega) (by omega)
 have hin:=needI_in (w:=x.ws.length) (l:=x.ls.length) (by rw [o3];exact o4.1)
 refine ⟨⟨by omega,by omega⟩,⟨by omega,by omega⟩,o3.symm,by omega,by omega,k.ints x hx,fun n hn=>(k.right.lead (o5 n hn)).1⟩
theorem ImH.dom {H:Hp} (k:ImH H) {g:Int→Int→Bool} (hg:g H.od H.obs.length=true):DomH g { H with fr := [] } := by
 have hn:=k.right.nx
 have h8:=k.right.fr.1
 have hl:=k.right.len
 exact ⟨⟨by simp only;omega,by simp only;omega⟩,⟨by simp only;omega,by simp only;omega⟩,⟨k.tp,fun t ht=>(k.right.lead (k.right.tp t ht)).1⟩,⟨by simp only;omega,by simp only;omega⟩,hg,fun x hx=>k.domO hx,rfl⟩
theorem ImH.reads {H:Hp} (k:ImH H) {g:Int→Int→Bool} (hg:g H.od H.obs.length=true) (r:List UInt8):praw g (encH H++r)=some ({ H with fr := [] },r):=(praw_codec g).full { H with fr := [] } r (k.dom hg)
theorem raw_eq {H K:Hp} (k:RightH H) (l:RightH K) (e:({ H with fr := [] } : Hp) = { K with fr := [] }):H=K:=by
 obtain ⟨od,obs,nx,tp,fr⟩:=H
 obtain ⟨od',obs',nx',tp',fr'⟩:=K
 simp only [Hp.mk.injEq] at e
 obtain ⟨rfl,rfl,rfl,rfl,_⟩:=e
 have:=k.freeOf.uniq l.freeOf
 simp only at this
 subst this
 rfl
theorem ImH.inj {H K:Hp} (h:ImH H) (k:ImH K) (e:encH H=encH K):H=K:=by
 have h1:=h.reads (g:=fun _ _=>true) rfl []
 rw [e,k.reads (g:=fun _ _=>true) rfl []] at h1
 injection h1 with h1
 injection h1 with h1 _
 exact (raw_eq k.right h.right h1).symm
def GetsH (b:List UInt8):Option Hp→Prop
 | some H=>ImH H∧encH H=b
 | none => ∀ H,ImH H→encH H≠b
theorem GetsH.uniq {b:List UInt8} : ∀ {o o':Option Hp},GetsH b o→GetsH b o'→o=o'
 | some _,some _,h,k=>congrArg some (h.1.inj k.1 (h.2.trans k.2.symm))
 | some H,none,h,k=>absurd h.2 (k H h.1)
 | none,some H,h,k=>absurd k.2 (h H k.1)
 | none,none,_,_=>rfl
theorem gets_some {g:Int→Int→Bool} {b:List UInt8} {R:Hp} {F:List Blk} (hp:praw g b=some (R, [])) (hr:RightH { R with fr:=F }):GetsH b (some { R with fr:=F }):=by
 obtain ⟨d,e⟩:=(praw_codec g).sound _ _ _ hp
 rw [List.append_nil] at e
 exact ⟨⟨hr,d.2.2.1.1,fun x hx=>(d.2.2.2.2.2.1 x hx).2.2.2.2.2.1⟩,e.symm⟩
theorem gets_none1 {g:Int→Int→Bool} {b:List UInt8} (hg : ∀ H,ImH H→g H.od H.obs.length=true) (hp:praw g b=none):GetsH b none:=by
 intro H k e
 have:=k.reads (hg H k) []
 rw [List.append_nil,e,hp] at this
 cases this
theorem gets_none2 {g:Int→Int→Bool} {b r:List UInt8} {R:Hp} (hg : ∀ H,ImH H→g H.od H.obs.length=true) (hp:praw g b=some (R,r)) (hr:r ≠ []):GetsH b none:=by
 intro H k e
 have:=k.reads (hg H k) []
 rw [List.append_nil,e,hp] at this
 injection this with this
 injection this with _ this
 exact hr this
theorem gets_none3 {g:Int→Int→Bool} {b r:List UInt8} {R:Hp} (hg : ∀ H,ImH H→g H.od H.obs.length=true) (hp:praw g b=some (R,r)) (hn : ∀ F, ¬ RightH { R with fr:=F }):GetsH b none:=by
 intro H k e
 have:=k.reads (hg H k) []
 rw [List.append_nil,e,hp] at this
 injection this with this
 injection this with this _
 refine hn H.fr ?_
 rw [this]
 exact k.right
theorem encO_length (x:Ob):(encO x).length=16+(8*x.ws.length+4*x.ls.length):=by
 unfold encO
 simp only [List.length_append,encN_length,flat_length encI_length,flat_length encN_length]
 omega
theorem encOs_length {H:Hp} : ∀ l:List Ob,(∀ x ∈ l,ObOk H x)→((l.flatMap encO).length:Int)≤16*sumL (l.map Ob.bl)
 | [],_=>by simp [sumL]
 | x :: t,h=>by
  have ih:=encOs_length t fun y hy=>h y (List.mem_cons_of_mem _ hy)
  obtain ⟨_,_,o3,o4,_⟩:=h x (List.mem_cons_self ..)
  have h1:=needI_fits (w:=x.ws.length) (l:=x.ls.length) (by rw [o3];exact o4.1)
  rw [o3] at h1
  rw [List.map_cons,sumL_cons,List.flatMap_cons,List.length_append,encO_length]
  omega
theorem ImH.size {H:Hp} (k:ImH H):(encH H).length≤65536:=by
 have h1:=encOs_length (H:=H) H.obs k.right.ok
 have h2:=k.right.sum
 unfold blks at h2
 rw [sumL_append] at h2
 have h3:=sumL_ge H.fr
 have h4:=sz_le256 (o:=H.od) (by have:=k.right.fr.1;omega) k.right.fr.1.2
 have h5:=k.tp
 unfold encH
 simp only [List.length_append,encN_length,flat_length encN_length]
 omega
structure Rw where
 cl:Int
 sq:Int
 co:Int
 va:Int
theorem Rw.ext' {a b:Rw} (h1:a.cl=b.cl) (h2:a.sq=b.sq) (h3:a.co=b.co) (h4:a.va=b.va):a=b:=by
 cases a;cases b;simp only at *;subst h1 h2 h3 h4;rfl
instance : DecidableEq Rw:=fun a b =>
 if h:a.cl=b.cl∧a.sq=b.sq∧a.co=b.co∧a.va=b.va then isTrue (Rw.ext' h.1 h.2.1 h.2.2.1 h.2.2.2) else isFalse fun e=>h (by subst e;exact ⟨rfl,rfl,rfl,rfl⟩)
structure St where
 hp:Hp
 rs:List Rw
instance : DecidableEq St:=fun a b =>
 if h:a.hp=b.hp∧a.rs=b.rs then isTrue (by cases a;cases b;simp only at h;obtain ⟨rfl,rfl⟩:=h;rfl) else isFalse fun e=>h (by subst e;exact ⟨rfl,rfl⟩)
def MayR (r:Rw):Prop:=(1≤r.cl∧r.cl≤4)∧(1≤r.sq∧r.sq≤1000000)∧0≤r.co∧r.co≤65535
instance (r:Rw):Decidable (MayR r):=by unfold MayR;infer_instance
def RowsOk (l:List Rw):Prop:=(∀ r ∈ l,MayR r)∧l.Pairwise (fun a b=>a.cl < b.cl)
instance (l:List Rw):Decidable (RowsOk l):=by unfold RowsOk;infer_instance
def RightS (s:St):Prop:=RightH s.hp∧RowsOk s.rs
instance (s:St):Decidable (RightS s):=by unfold RightS;infer_instance
theorem rows_len : ∀ (l:List Rw) (lo:Int),(∀ r ∈ l,lo < r.cl∧r.cl≤4)→l.Pairwise (fun a b=>a.cl < b.cl)→(l.length:Int)≤max 0 (4 - lo)
 | [],lo,_,_=>by simp;omega
 | a :: t,lo,h,hp=>by
  rw [List.pairwise_cons] at hp
  have h1:=h a (List.mem_cons_self ..)
  have:=rows_len t a.cl (fun r hr=>⟨hp.1 r hr,(h r (List.mem_cons_of_mem _ hr)).2⟩) hp.2
  rw [List.length_cons]
  omega
theorem RowsOk.len {l:List Rw} (h:RowsOk l):l.length≤4:=by
 have:=rows_len l 0 (fun r hr=>⟨by have:=(h.1 r hr).1.1;omega,(h.1 r hr).1.2⟩) h.2
 omega
end Go.Proofs.YtcodpnbemdflcaaGreatDoor
namespace Go.Proofs.YtcodpnbemdflcaaGreatDoor
open Go.RowKit
theorem results_c1 {fn:Func} {p:Tmp} {ty t:TypeId} (h:fn.results = #[.cell p ty]) (tmps:Array Value) (w:World) (g:Nat) (cs:List Value)
  (hp:tmps.getD p undef = .pointer (some ⟨g,0,none⟩)) (hg:Whole w g t cs)
  {fs:_} (hu:Tryz.prog.underlying ty=some (.struct fs)) (hi:(Tryz.prog.info? ty).map (·.size)=some cs.length) :
  (results fn tmps).run Tryz.prog w = .ok (.agg cs.toArray) w:=results_cell_row h tmps w g t cs.toArray (0,0) (.struct fs) hp hg hu rfl (by simpa using hi)
theorem results_c2 {fn:Func} {p u:Tmp} {ty t:TypeId} (h:fn.results = #[.cell p ty, .tmp u]) (tmps:Array Value) (w:World) (g:Nat) (cs:List Value)
  (hp:tmps.getD p undef = .pointer (some ⟨g,0,none⟩)) (hg:Whole w g t cs)
  {fs:_} (hu:Tryz.prog.underlying ty=some (.struct fs)) (hi:(Tryz.prog.info? ty).map (·.size)=some cs.length) :
  (results fn tmps).run Tryz.prog w = .ok (.tuple #[.agg cs.toArray,tmps.getD u undef]) w:=by
 rw [results_cell_tmp h,hp]
 simp [asAddr,run_loadVar_row w g t ty cs.toArray (0,0) (.struct fs) hg hu rfl (by simpa using hi)]
theorem results_c3 {fn:Func} {p q:Tmp} {ty t t2:TypeId} (h:fn.results = #[.cell p ty, .cell q 29]) (tmps:Array Value) (w:World) (g g2:Nat) (cs:List Value) (v:Value)
  (hp:tmps.getD p undef = .pointer (some ⟨g,0,none⟩)) (hq:tmps.getD q undef = .pointer (some ⟨g2,0,none⟩)) (hg:Whole w g t cs) (hg2:Whole w g2 t2 [v])
  {fs:_} (hu:Tryz.prog.underlying ty=some (.struct fs)) (hi:(Tryz.prog.info? ty).map (·.size)=some cs.length) :
  (results fn tmps).run Tryz.prog w = .ok (.tuple #[.agg cs.toArray,v]) w:=by
 have hp':tmps[p]?.getD undef = .pointer (some ⟨g,0,none⟩):=by simpa using hp
 have hq':tmps[q]?.getD undef = .pointer (some ⟨g2,0,none⟩):=by simpa using hq
 have c0:w.cell? ⟨g2,0,none⟩=some v:=hg2.cell 0
 have i1:=Tryz.isAgg29
 simp only [results,h]
 simp [hp',hq',asAddr,run_loadVar_row w g t ty cs.toArray (0,0) (.struct fs) hg hu rfl (by simpa using hi)]
 simp only [loadVar]
 go_simp
def gone:List PanicEntry := [{ v := .iface 29 (.int .i64 60),recovered:=false }]
def rdv (g:Nat):Value := .agg #[.pointer (some ⟨g,0,none⟩)]
set_option maxHeartbeats 400000 in
theorem giveUp_any (w:World):Calls Tryz.prog 205 #[] w fun e w'=>e = .panicked gone∧w=w':=by
 go_enter Tryz.func205,Tryz.ntmps205
 go_wp2
 exact ⟨rfl,rfl,rfl⟩
set_option maxHeartbeats 400000 in
theorem mustInt_yes (v:Int) (w:World):Calls Tryz.prog 243 #[.int .i64 v, .int .i64 0] w fun e w'=>e = .returned (.int .i64 v)∧w=w':=by
 go_enter Tryz.func243,Tryz.ntmps243
 go_wp2
 go_ret
 exact ⟨rfl,rfl⟩
set_option maxHeartbeats 400000 in
theorem mustInt_no (v er:Int) (w:World) (he:(er != 0)=true):Calls Tryz.prog 243 #[.int .i64 v, .int .i64 er] w fun e w'=>e = .panicked gone∧w=w':=by
 go_enter Tryz.func243,Tryz.ntmps243
 go_wp2_with fail
 refine (giveUp_any _).mono ?_
 rintro e w' ⟨rfl,rfl⟩
 go_wp2
 exact ⟨rfl,rfl,rfl⟩
def Reads {α:Type} (w:World) (g:Nat) (o:Option (α × List UInt8)) (K:α→Value→World→Prop) (e:Ending) (w':World):Prop :=
 w.grownBy w' (some g)∧match o with
  | some q => ∃ v,e = .returned v∧K q.1 v w'∧Rdr w' g q.2
  | none=>e = .panicked gone
theorem Reads.some_ {α:Type} {w w':World} {g:Nat} {p:Option (α × List UInt8)} {K:α→Value→World→Prop} {a:α} {r:List UInt8} {v:Value} (hp:p=some (a,r)) (hg:w.grownBy w' (some g)) (hK:K a v w') (hr:Rdr w' g r):Reads w g p K (.returned v) w':=by
 subst hp
 exact ⟨hg,v,rfl,hK,hr⟩
theorem Rdr.keep {w w':World} {g:Nat} {l:List UInt8} (h:Rdr w g l) (hb:Below w.heap.size w w') (hg:g < w.heap.size):Rdr w' g l:=by
 obtain ⟨A,m,c,hblk,hrd,hnc,hcm⟩:=h
 exact ⟨A,m,c,(hb.block g hg).trans hblk,hrd.below hb,hnc,hcm⟩
theorem Rdr.lt {w:World} {g:Nat} {l:List UInt8} (h:Rdr w g l):g < w.heap.size:=by
 obtain ⟨A,m,c,hblk, -⟩:=h
 rw [Array.getElem?_eq_some_iff] at hblk
 exact hblk.1
theorem Rdr.alloc {w:World} {g:Nat} {l:List UInt8} (h:Rdr w g l) (o:Obj):Rdr (w.alloc o) g l:=h.keep ((Below.refl _ _).alloc (Nat.le_refl _) o) h.lt
theorem grown_of_alloc {w w':World} {o:Obj} {r:Option Nat} (h:(w.alloc o).grownBy w' r):w.grownBy w' r:=grown_trans (grown_below ((Below.refl _ _).alloc (Nat.le_refl _) o) r) h
def NoByte (w:World) (b:Nat):Prop := ∀ (j:Nat) (x:Int),w.cell? ⟨b,j,none⟩≠some (.int .u8 x)
theorem Rd.apart {w w':World} {A:Option Addr} {n:Nat} {l:List UInt8} {b:Nat} (h:Rd w A n l) (hb:NoByte w b) (hg:w.grownBy w' (some b)):Rd w' A n l :=
 ⟨h.len,fun hn=>by
  obtain ⟨b',off,e,hlt,hc⟩:=h.at_ hn
  refine ⟨b',off,e,Nat.lt_of_lt_of_le hlt hg.size,fun j x hx => ?_⟩
  have h1:=hc j x hx
  have hne:b'≠b:=fun e=>by subst e;exact hb _ _ h1
  have h2:w'.heap[b']? = w.heap[b']? := hg.block b' hlt (by simpa using hne)
  rw [World.cell?_of_block (w:=w) h2]
  exact h1⟩
theorem grown_new {w wr:World} {r:Option Nat} (h:w.grownBy wr r) {b:Nat} (hb:w.heap.size≤b) (j:Nat) (u:Value):w.grownBy (wr.setCell ⟨b,j,none⟩ u) r :=
 ⟨h.os,h.tape,h.output,by simpa [World.setCell] using h.size,fun k hk hr=>(heap_setCell_other wr ⟨b,j,none⟩ k u (by simp only;omega)).trans (h.block k hk hr)⟩
theorem Rdr.apart {w w':World} {g b:Nat} {l:List UInt8} (h:Rdr w g l) (hb:NoByte w b) (hne:g≠b) (hg:w.grownBy w' (some b)):Rdr w' g l:=by
 have hlt:=h.lt
 obtain ⟨A,m,c,hblk,hrd,hnc,hcm⟩:=h
 exact ⟨A,m,c,(hg.block g hlt (by simpa using hne)).trans hblk,hrd.apart hb hg,hnc,hcm⟩
theorem Whole.noByte {w:World} {b:Nat} {t:TypeId} {cs:List Value} (h:Whole w b t cs) (hc : ∀ u ∈ cs, ∀ x,u ≠ .int .u8 x):NoByte w b:=fun j x e=>by
 rw [h.cell] at e
 exact hc _ (List.mem_of_getElem? e) x rfl
set_option maxHeartbeats 400000 in
theorem rdNumber_any (g:Nat) (l:List UInt8) (w:World) (hr:Rdr w g l) :
  Calls Tryz.prog 207 #[rdv g] w (Reads w g (pnum l) fun n v _=>v = .int .i64 n):=by
 have Hc:=Lib.hid (number_any g l (w.alloc (.cells #[.pointer (some ⟨g,0,none⟩)] 236)) (hr.alloc _))
 unfold rdv
 cases hp:pnum l with
 | some q =>
  obtain ⟨n,r⟩:=q
  obtain ⟨h1,h2,h3,h4,_⟩:=pnum_some hp
  have Hp:=Lib.hid h4
  rw [h1,h2,h3] at Hc
  clear h1 h2 h3 h4 hp
  go_enter Tryz.func207,Tryz.ntmps207
  go_wp2_with fail
  refine Calls.mono Hc.out ?_
  rintro e w' ⟨rfl,hr',hg⟩
  go_wp2_with fail
  refine (mustInt_yes _ _).mono ?_
  rintro e w2 ⟨rfl,rfl⟩
  go_wp2
  go_ret
  rw [← Hp.out] at hr'
  exact ⟨grown_of_alloc hg,_,rfl,rfl,hr'⟩
 | none =>
  obtain ⟨h1,h2,h3⟩:=pnum_none hp
  rw [h1,h2] at Hc
  have h4:((rnum l).2.2 != 0)=true:=by simp [h3]
  generalize (rnum l).2.2=er at *
  clear h1 h2 h3 hp
  go_enter Tryz.func207,Tryz.ntmps207
  go_wp2_with fail
  refine Calls.mono Hc.out ?_
  rintro e w' ⟨rfl,hr',hg⟩
  go_wp2_with fail
  refine (mustInt_no _ _ _ h4).mono ?_
  rintro e w2 ⟨rfl,rfl⟩
  go_wp2
  exact ⟨rfl,grown_of_alloc hg,rfl⟩
set_option maxHeartbeats 400000 in
theorem rdInt_any (g:Nat) (l:List UInt8) (w:World) (hr:Rdr w g l) :
  Calls Tryz.prog 212 #[rdv g] w (Reads w g (pint l) fun n v _=>v = .int .i64 n):=by
 have Hc:=Lib.hid (int_any g l (w.alloc (.cells #[.pointer (some ⟨g,0,none⟩)] 236)) (hr.alloc _))
 unfold rdv
 cases hp:pint l with
 | some q =>
  obtain ⟨n,r⟩:=q
  obtain ⟨h1,h2,h3,h4,_⟩:=pint_some hp
  have Hp:=Lib.hid h4
  rw [h1,h2,h3] at Hc
  clear h1 h2 h3 h4 hp
  go_enter Tryz.func212,Tryz.ntmps212
  go_wp2_with fail
  refine Calls.mono Hc.out ?_
  rintro e w' ⟨rfl,hr',hg⟩
  go_wp2_with fail
  refine (mustInt_yes _ _).mono ?_
  rintro e w2 ⟨rfl,rfl⟩
  go_wp2
  go_ret
  rw [← Hp.out] at hr'
  exact ⟨grown_of_alloc hg,_,rfl,rfl,hr'⟩
 | none =>
  obtain ⟨h1,h2,h3⟩:=pint_none hp
  rw [h1,h2] at Hc
  have h4:((rint l).2.2 != 0)=true:=by simp [h3]
  generalize (rint l).2.2=er at *
  clear h1 h2 h3 hp
  go_enter Tryz.func212,Tryz.ntmps212
  go_wp2_with fail
  refine Calls.mono Hc.out ?_
  rintro e w' ⟨rfl,hr',hg⟩
  go_wp2_with fail
  refine (mustInt_no _ _ _ h4).mono ?_
  rintro e w2 ⟨rfl,rfl⟩
  go_wp2
  exact ⟨rfl,grown_of_alloc hg,rfl⟩
end Go.Proofs.YtcodpnbemdflcaaGreatDoor
namespace Go.Proofs.YtcodpnbemdflcaaGreatDoor
open Go.RowKit
theorem Whole.setAt {w:World} {g:Nat} {t:TypeId} {xs:List Value} {m:Nat} {z u:Value} {k:Nat} (h:Whole w g t (xs++reps (m+1) z)) (hk:xs.length=k):Whole (w.setCell ⟨g,k,none⟩ u) g t ((xs ++ [u])++reps m z):=by
 have:=h.set k u
 rw [List.set_append_right k u (by omega),hk,Nat.sub_self] at this
 unfold reps at this ⊢
 rw [List.replicate_succ,List.set_cons_zero] at this
 rwa [List.append_assoc]
theorem ints_noByte (vs:List Int) (m:Nat) : ∀ u ∈ intvs vs++reps m (.int .i64 0), ∀ x,u ≠ .int .u8 x:=by
 intro u hu x e
 subst e
 rcases List.mem_append.1 hu with h | h
 ·unfold intvs at h
  obtain ⟨y,_,h⟩:=List.mem_map.1 h
  cases h
 ·have:=List.eq_of_mem_replicate h
  cases this
def fieldPs (o:Nat):List Value := [.pointer (some ⟨o,1,none⟩), .pointer (some ⟨o,2,none⟩), .pointer (some ⟨o,3,none⟩), .pointer (some ⟨o,4,none⟩), .pointer (some ⟨o,5,none⟩), .pointer (some ⟨o,6,none⟩)]
theorem fieldPs_get (o k:Nat) (h:k < 6):(fieldPs o)[k]? = some (.pointer (some ⟨o,k+1,none⟩)):=by
 rcases (show k=0∨k=1∨k=2∨k=3∨k=4∨k=5 by omega) with rfl | rfl | rfl | rfl | rfl | rfl <;> rfl
theorem grown_sets7 {wr:World} {b:Nat} (v0 v1 v2 v3 v4 v5 v6:Value):wr.grownBy (((((((wr.setCell ⟨b,0,none⟩ v0).setCell ⟨b,1,none⟩ v1).setCell ⟨b,2,none⟩ v2).setCell ⟨b,3,none⟩ v3).setCell ⟨b,4,none⟩ v4).setCell ⟨b,5,none⟩ v5).setCell ⟨b,6,none⟩ v6) (some b) :=
 grown_trans (grown_trans (grown_trans (grown_trans (grown_trans (grown_trans (grown_set wr b 0 v0) (grown_set _ b 1 v1)) (grown_set _ b 2 v2)) (grown_set _ b 3 v3)) (grown_set _ b 4 v4)) (grown_set _ b 5 v5)) (grown_set _ b 6 v6)
theorem hrdr7 {wr:World} {g b:Nat} {l:List UInt8} (h:Rdr wr g l) (hb:NoByte wr b) (hne:g≠b) (v0 v1 v2 v3 v4 v5 v6:Value):Rdr (((((((wr.setCell ⟨b,0,none⟩ v0).setCell ⟨b,1,none⟩ v1).setCell ⟨b,2,none⟩ v2).setCell ⟨b,3,none⟩ v3).setCell ⟨b,4,none⟩ v4).setCell ⟨b,5,none⟩ v5).setCell ⟨b,6,none⟩ v6) g l:=h.apart hb hne (grown_sets7 v0 v1 v2 v3 v4 v5 v6)
def OpRel (w:World) (g o q:Nat) (l:List UInt8) (i:Value) (wr:World):Prop :=
 ∃ (k:Nat) (vs:List Int) (r:List UInt8),k≤6∧i = .int .i64 (k:Int)∧prep pint (k+1) l=some (vs,r)∧Rdr wr g r∧Whole wr o 45 (intvs vs++reps (6 - k) (.int .i64 0))∧Whole wr q 112 (fieldPs o)∧Whole wr w.heap.size 236 [.pointer (some ⟨g,0,none⟩)]∧Whole wr (w.heap.size+1) 45 [.int .i64 0, .int .i64 0, .int .i64 0, .int .i64 0, .int .i64 0, .int .i64 0, .int .i64 0]∧w.grownBy wr (some g)
set_option maxHeartbeats 2000000 in
theorem rdOp_any (g:Nat) (l:List UInt8) (w:World) (hr:Rdr w g l) :
  Calls Tryz.prog 159 #[rdv g] w (Reads w g (prep pint 7 l) fun vs v _=>v = .agg (intvs vs).toArray):=by
 have HR:=Lib.hid hr
 go_enter Tryz.func159,Tryz.ntmps159
 unfold rdv
 go_wp2_with fail
 have KB:=(Whole.new w #[.pointer (some ⟨g,0,none⟩)] 236).alloc (.cells #[.int .i64 0, .int .i64 0, .int .i64 0, .int .i64 0, .int .i64 0, .int .i64 0, .int .i64 0] 45)
 have KO:=Whole.new (w.alloc (.cells #[.pointer (some ⟨g,0,none⟩)] 236)) #[.int .i64 0, .int .i64 0, .int .i64 0, .int .i64 0, .int .i64 0, .int .i64 0, .int .i64 0] 45
 rw [show (w.alloc (.cells #[.pointer (some ⟨g,0,none⟩)] 236)).heap.size=w.heap.size+1 by simp] at KO
 have R0:=(hr.alloc (.cells #[.pointer (some ⟨g,0,none⟩)] 236)).alloc (.cells #[.int .i64 0, .int .i64 0, .int .i64 0, .int .i64 0, .int .i64 0, .int .i64 0, .int .i64 0] 45)
 have G0:=grown_below (((Below.refl w.heap.size w).alloc (Nat.le_refl _) (.cells #[.pointer (some ⟨g,0,none⟩)] 236)).alloc (by simp) (.cells #[.int .i64 0, .int .i64 0, .int .i64 0, .int .i64 0, .int .i64 0, .int .i64 0, .int .i64 0] 45)) (some g)
 generalize (w.alloc (.cells #[.pointer (some ⟨g,0,none⟩)] 236)).alloc (.cells #[.int .i64 0, .int .i64 0, .int .i64 0, .int .i64 0, .int .i64 0, .int .i64 0, .int .i64 0] 45)=W at KB KO R0 G0 ⊢
 refine (rdInt_any g l W R0).mono ?_
 have hlt:=hr.lt
 rintro e w1 ⟨hg1,hm⟩
 have KB1:=Lib.hid (KB.grown hg1 (by omega))
 have KO1:=Lib.hid (KO.grown hg1 (by omega))
 have G1:=Lib.hid (grown_trans G0 hg1)
 clear KB KO R0 G0 hg1
 cases hq:pint l with
 | none =>
  rw [hq] at hm
  subst hm
  have Hst:=Lib.hid (prep_stop (p:=pint) (m:=0) (n:=7) (l:=l) rfl hq (by omega))
  clear hq
  go_wp2
  exact ⟨rfl,G1.out,by rw [Hst.out]⟩
 | some q =>
  obtain ⟨x,r⟩:=q
  rw [hq] at hm
  obtain ⟨v,rfl,rfl,hr1⟩:=hm
  have Hp:=Lib.hid (prep_step (p:=pint) (n:=0) (l:=l) rfl hq)
  have Hr1:=Lib.hid hr1
  have b0:=KB1.out.cell 0
  have hs1:=KO1.out.lt
  clear hq hr1
  dsimp only
  go_wp2_with fail
  have KOo:=(Whole.new w1 #[.int .i64 x, .int .i64 0, .int .i64 0, .int .i64 0, .int .i64 0, .int .i64 0, .int .i64 0] 45).alloc (.cells (fieldPs w1.heap.size).toArray 112)
  have KQ:=Whole.new (w1.alloc (.cells #[.int .i64 x, .int .i64 0, .int .i64 0, .int .i64 0, .int .i64 0, .int .i64 0, .int .i64 0] 45)) (fieldPs w1.heap.size).toArray 112
  rw [show (w1.alloc (.cells #[.int .i64 x, .int .i64 0, .int .i64 0, .int .i64 0, .int .i64 0, .int .i64 0, .int .i64 0] 45)).heap.size=w1.heap.size+1 by simp] at KQ
  have B2:=((Below.refl w1.heap.size w1).alloc (Nat.le_refl _) (.cells #[.int .i64 x, .int .i64 0, .int .i64 0, .int .i64 0, .int .i64 0, .int .i64 0, .int .i64 0] 45)).alloc (by simp) (.cells (fieldPs w1.heap.size).toArray 112)
  have KB2:=Lib.hid (KB1.out.below B2)
  have KR2:=Lib.hid (KO1.out.below B2)
  have HR2:=Lib.hid (Hr1.out.keep B2 Hr1.out.lt)
  have G2:=Lib.hid (grown_trans G1.out (grown_below B2 (some g)))
  have S2:=Lib.hid (show ((w1.alloc (.cells #[.int .i64 x, .int .i64 0, .int .i64 0, .int .i64 0, .int .i64 0, .int .i64 0, .int .i64 0] 45)).alloc (.cells (fieldPs w1.heap.size).toArray 112)).heap.size=w1.heap.size+2 by simp)
  have HO2:=Lib.hid KOo
  have HQ2:=Lib.hid KQ
  clear KOo KQ B2 b0
  unfold fieldPs at HO2 HQ2 KB2 KR2 HR2 G2 S2
  generalize (w1.alloc (.cells #[.int .i64 x, .int .i64 0, .int .i64 0, .int .i64 0, .int .i64 0, .int .i64 0, .int .i64 0] 45)).alloc (.cells [Value.pointer (some ⟨w1.heap.size,1,none⟩), .pointer (some ⟨w1.heap.size,2,none⟩), .pointer (some ⟨w1.heap.size,3,none⟩), .pointer (some ⟨w1.heap.size,4,none⟩), .pointer (some ⟨w1.heap.size,5,none⟩), .pointer (some ⟨w1.heap.size,6,none⟩)].toArray 112)=W2 at *
  go_loopw [17] (OpRel w g w1.heap.size (w1.heap.size+1) l) (fun i _=>6 - (intOf i).toNat)
  case atStart=>exact ⟨0, [x],r,by omega,rfl,Hp.out,HR2.out,HO2.out,HQ2.out,KB2.out,KR2.out,G2.out⟩
  case round =>
   obtain ⟨k,vs,r,hk,rfl,hpr,hrd,hw,hq,hb,hres,hgr⟩:=hrel
   have Hres:=Lib.hid hres
   have hlen:=prep_len hpr
   have Hrd:=Lib.hid hrd
   have Hw:=Lib.hid hw
   have Hq:=Lib.hid hq
   have Hb:=Lib.hid hb
   have Hg:=Lib.hid hgr
   have Hpr:=Lib.hid hpr
   clear hrd hw hgr hpr hres
   by_cases hlt:k < 6
   ·have hki:(k:Int) < 6:=by omega
    have b0:=hb.cell 0
    have q0:wr.cell? ⟨w1.heap.size+1,k,none⟩=some (.pointer (some ⟨w1.heap.size,k+1,none⟩)):=by rw [hq.cell,fieldPs_get _ _ hlt]
    clear hq hb
    go_wp2_with fail
    refine (rdInt_any g r wr Hrd.out).mono ?_
    rintro e w3 ⟨hg3,hm⟩
    have G3:=Lib.hid (grown_trans Hg.out hg3)
    cases hq:pint r with
    | none =>
     rw [hq] at hm
     subst hm
     have Hst:=Lib.hid (prep_stop (n:=7) Hpr.out hq (by omega))
     clear hq hg3
     go_wp2
     exact ⟨rfl,G3.out,by rw [Hst.out]⟩
    | some q =>
     obtain ⟨y,r'⟩:=q
     rw [hq] at hm
     obtain ⟨v,rfl,rfl,hr3⟩:=hm
     have Hp3:=Lib.hid (prep_step Hpr.out hq)
     have hgl:=hr.lt
     have W3:=Hw.out.grown hg3 (by omega)
     have Q3:=Lib.hid (Hq.out.grown hg3 (by omega))
     have B3:=Lib.hid (Hb.out.grown hg3 (by omega))
     have R3:=Lib.hid (Hres.out.grown hg3 (by omega))
     have hk1:6 - k=(6 - (k+1))+1:=by omega
     rw [hk1] at W3
     have c0:w3.cell? ⟨w1.heap.size,k+1,none⟩=some (.int .i64 0):=by
      have:=W3.cell (k+1)
      rw [List.getElem?_append_right (by rw [intvs_length];omega),intvs_length,hlen,Nat.sub_self] at this
      exact this
     have z0:=W3.free (k+1)
     have G4:=Lib.hid (grown_new G3.out (b:=w1.heap.size) (by omega) (k+1) (.int .i64 y))
     have g4:=grown_set w3 w1.heap.size (k+1) (.int .i64 y)
     have Rd4:=Lib.hid (hr3.apart (W3.noByte (ints_noByte _ _)) (by omega) g4)
     have W4:=Lib.hid (W3.setAt (u := .int .i64 y) (k:=k+1) (by rw [intvs_length];exact hlen))
     have Q4:=Lib.hid (Q3.out.grown g4 (by omega))
     have B4:=Lib.hid (B3.out.grown g4 (by omega))
     have R4:=Lib.hid (R3.out.grown g4 (by omega))
     clear hq hk1 W3 hr3 hg3 hlen g4 b0 q0 hgl
     dsimp only
     go_wp2
     go_roundw
     case rel =>
      refine ⟨k+1,vs ++ [y],r',by omega,by go_num,Hp3.out,Rd4.out,?_,Q4.out,B4.out,R4.out,G4.out⟩
      have:=W4.out
      unfold intvs at this ⊢
      rw [List.map_append]
      exact this
     case measure=>simp [intOf];omega
   ·obtain rfl:k=6:=by omega
    match vs,hlen with
    | [v0,v1,v2,v3,v4,v5,v6],_ =>
     have o0:wr.cell? ⟨w1.heap.size,0,none⟩=some (.int .i64 v0):=Hw.out.cell 0
     have o1:wr.cell? ⟨w1.heap.size,1,none⟩=some (.int .i64 v1):=Hw.out.cell 1
     have o2:wr.cell? ⟨w1.heap.size,2,none⟩=some (.int .i64 v2):=Hw.out.cell 2
     have o3:wr.cell? ⟨w1.heap.size,3,none⟩=some (.int .i64 v3):=Hw.out.cell 3
     have o4:wr.cell? ⟨w1.heap.size,4,none⟩=some (.int .i64 v4):=Hw.out.cell 4
     have o5:wr.cell? ⟨w1.heap.size,5,none⟩=some (.int .i64 v5):=Hw.out.cell 5
     have o6:wr.cell? ⟨w1.heap.size,6,none⟩=some (.int .i64 v6):=Hw.out.cell 6
     have p0:wr.cell? ⟨w.heap.size+1,0,none⟩=some (.int .i64 0):=Hres.out.cell 0
     have z0:=Hres.out.free 0
     have p1:wr.cell? ⟨w.heap.size+1,1,none⟩=some (.int .i64 0):=Hres.out.cell 1
     have z1:=Hres.out.free 1
     have p2:wr.cell? ⟨w.heap.size+1,2,none⟩=some (.int .i64 0):=Hres.out.cell 2
     have z2:=Hres.out.free 2
     have p3:wr.cell? ⟨w.heap.size+1,3,none⟩=some (.int .i64 0):=Hres.out.cell 3
     have z3:=Hres.out.free 3
     have p4:wr.cell? ⟨w.heap.size+1,4,none⟩=some (.int .i64 0):=Hres.out.cell 4
     have z4:=Hres.out.free 4
     have p5:wr.cell? ⟨w.heap.size+1,5,none⟩=some (.int .i64 0):=Hres.out.cell 5
     have z5:=Hres.out.free 5
     have p6:wr.cell? ⟨w.heap.size+1,6,none⟩=some (.int .i64 0):=Hres.out.cell 6
     have z6:=Hres.out.free 6
     have hne : ¬ w.heap.size+1=w1.heap.size:=by omega
     have K7:=Lib.hid (((((((Hres.out.set 0 (.int .i64 v0)).set 1 (.int .i64 v1)).set 2 (.int .i64 v2)).set 3 (.int .i64 v3)).set 4 (.int .i64 v4)).set 5 (.int .i64 v5)).set 6 (.int .i64 v6))
     clear hb hq
     go_wp2
     have Hf:=Lib.hid (show w.grownBy (((((((wr.setCell ⟨w.heap.size+1,0,none⟩ (.int .i64 v0)).setCell ⟨w.heap.size+1,1,none⟩ (.int .i64 v1)).setCell ⟨w.heap.size+1,2,none⟩ (.int .i64 v2)).setCell ⟨w.heap.size+1,3,none⟩ (.int .i64 v3)).setCell ⟨w.heap.size+1,4,none⟩ (.int .i64 v4)).setCell ⟨w.heap.size+1,5,none⟩ (.int .i64 v5)).setCell ⟨w.heap.size+1,6,none⟩ (.int .i64 v6)) (some g) from
      grown_new (grown_new (grown_new (grown_new (grown_new (grown_new (grown_new Hg.out (Nat.le_succ _) 0 _) (Nat.le_succ _) 1 _) (Nat.le_succ _) 2 _) (Nat.le_succ _) 3 _) (Nat.le_succ _) 4 _) (Nat.le_succ _) 5 _) (Nat.le_succ _) 6 _)
     have N0:=Hres.out.noByte (ints_noByte [] 7)
     have hgl:=hr.lt
     have hr7:=hrdr7 Hrd.out N0 (by omega:g≠w.heap.size+1) (.int .i64 v0) (.int .i64 v1) (.int .i64 v2) (.int .i64 v3) (.int .i64 v4) (.int .i64 v5) (.int .i64 v6)
     refine bodyPost_ret (results_c1 rfl _ _ _ _ rfl K7.out Tryz.underlying45 (by kernel_rfl)) rfl ?_
     exact ⟨Hf.out,by rw [Hpr.out];exact ⟨_,rfl,rfl,hr7⟩⟩
end Go.Proofs.YtcodpnbemdflcaaGreatDoor
namespace Go.Proofs.YtcodpnbemdflcaaGreatDoor
open Go.RowKit
set_option maxHeartbeats 1000000 in
theorem laidOp_any (ns:List Int) (h7:ns.length=7) (b base:Nat) (v:Value) (bs:List UInt8) (w:World) (hL:Laid w b base v bs) (hbase:base≤w.heap.size) (hbs:bs.length≤1000000) :
  Calls Tryz.prog 98 #[.pointer (some ⟨b,0,none⟩), .agg (intvs ns).toArray] w (LaidPost w b base v (bs++ns.flatMap encI)):=by
 have hb1:Below w.heap.size w ((w.alloc (.cells (intvs ns).toArray 45)).alloc (.cells (intvs ns).toArray 3)):=((Below.refl _ _).alloc (Nat.le_refl _) _).alloc (by simp) _
 have hrow:RdV ((w.alloc (.cells (intvs ns).toArray 45)).alloc (.cells (intvs ns).toArray 3)) (some ⟨w.heap.size+1,0,none⟩) 7 (intvs ns):=by
  have:=(Whole.new (w.alloc (.cells (intvs ns).toArray 45)) (intvs ns).toArray 3).rd
  rw [show (w.alloc (.cells (intvs ns).toArray 45)).heap.size=w.heap.size+1 by simp,List.toList_toArray,intvs_length,h7] at this
  exact this
 have L1:=Lays.begin hL hb1
 have Hc:=Lib.hid (ints_any (some ⟨w.heap.size+1,0,none⟩) 7 7 ns b base v bs _ hrow (Off.new (t:=0) hL (by omega) (by simp)) L1.laid (by have:=hb1.size;omega) (by omega) hbs)
 obtain ⟨X,hX⟩ : ∃ X,X=ns.flatMap encI:=⟨_,rfl⟩
 rw [← hX] at Hc ⊢
 have HL:=Lib.hid L1
 clear hX hb1 hrow L1 hL
 match ns,h7 with
 | [k,h,i,n,kk,v',t],_ =>
  unfold intvs at *
  simp only [List.map_cons,List.map_nil] at *
  go_enter Tryz.func98,Tryz.ntmps98
  go_wp2_with fail
  refine Calls.mono Hc.out ?_
  rintro e w1 ⟨v2,rfl,hl2⟩
  go_wp2
  first | go_end0 | refine bodyPost_ret (results_none rfl _ _ _) rfl ?_
  exact ⟨_,rfl,HL.out.trans hl2⟩
set_option maxHeartbeats 1000000 in
theorem putOp_any (ns:List Int) (h7:ns.length=7) (w:World):Calls Tryz.prog 56 #[.agg (intvs ns).toArray] w (Gives w (ns.flatMap encI)):=by
 have hW:=Whole.new (w.alloc (.cells (intvs ns).toArray 45)) #[.slice none 0 0] 153
 have hb1:Below w.heap.size w ((w.alloc (.cells (intvs ns).toArray 45)).alloc (.cells #[.slice none 0 0] 153)):=((Below.refl _ _).alloc (Nat.le_refl _) _).alloc (by simp) _
 rw [show (w.alloc (.cells (intvs ns).toArray 45)).heap.size=w.heap.size+1 by simp] at hW
 have L1:Laid ((w.alloc (.cells (intvs ns).toArray 45)).alloc (.cells #[.slice none 0 0] 153)) (w.heap.size+1) w.heap.size (.slice none 0 0) []:=⟨hW,Own.nil⟩
 have Hc:=Lib.hid (laidOp_any ns h7 (w.heap.size+1) w.heap.size (.slice none 0 0) [] _ L1 hb1.size (by simp))
 rw [List.nil_append] at Hc
 obtain ⟨X,hX⟩ : ∃ X,X=ns.flatMap encI:=⟨_,rfl⟩
 rw [← hX] at Hc ⊢
 have HL:=Lib.hid L1
 have HB:=Lib.hid hb1
 clear hX hb1 L1 hW
 match ns,h7 with
 | [k,h,i,n,kk,v',t],_ =>
  unfold intvs at *
  simp only [List.map_cons,List.map_nil] at *
  go_enter Tryz.func56,Tryz.ntmps56
  go_wp2_with fail
  refine Calls.mono Hc.out ?_
  rintro e w1 ⟨v2,rfl,hl2⟩
  have hbw:=HB.out.trans (hl2.below HL.out (by omega) HB.out.size)
  obtain ⟨A2,c2,rfl,_,_,_⟩:=hl2.laid.own.shape
  have b0:=hl2.laid.box.cell 0
  have Hl:=Lib.hid hl2
  clear hl2
  go_wp2
  go_ret
  exact ⟨_,rfl,Hl.out.laid.own,hbw⟩
end Go.Proofs.YtcodpnbemdflcaaGreatDoor

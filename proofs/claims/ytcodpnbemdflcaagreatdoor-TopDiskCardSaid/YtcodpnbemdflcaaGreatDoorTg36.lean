/-
  Package redo: numbers as bytes, whether all bytes are 0, a sector's bytes: contracts.
  Package redo: a sector's bytes by what it has (laid), and back (readSector): contracts.
  Package redo: what a sector has by its bytes (readSector): a contract, at bytes 0 and at a sector that was laid.
-/
import Derived.Test.YtcodpnbemdflcaaGreatDoorTg33
namespace Go.Proofs.YtcodpnbemdflcaaGreatDoor
open Go.RowKit
def LNumRel (l:List Nat) (w:World) (v i:Value) (wr:World):Prop :=
 ∃ k:Nat,k≤l.length∧i = .int .i64 (k:Int)∧Own 5 wr w.heap.size v (nbs (l.take k))∧Below w.heap.size w wr
set_option maxHeartbeats 1000000 in
theorem lnumbers_any {A:Option Addr} {n c:Nat} {l:List Nat} {w:World} (h:RdV w A n (nts l)) (hn:n≤10) (hx : ∀ x ∈ l,x≤2147483647) :
  Calls Tryz.prog 151 #[.slice A n c] w (Gives w (nbs l)):=by
 have hlen:l.length=n:=by rw [← nts_length];exact h.len
 have HL:=Lib.hid h
 have Hlen:=Lib.hid hlen
 have HX:=Lib.hid hx
 clear h hlen hx
 go_enter Tryz.func151,Tryz.ntmps151
 go_wp2
 go_loopw [3,8] (LNumRel l w) (fun _ i _=>n - (Go.RowKit.intOf i).toNat)
 case atStart=>exact ⟨0,Nat.zero_le _,rfl,Own.nil,Below.refl _ _⟩
 case round =>
  obtain ⟨k,hk,rfl,hown,hb⟩:=hrel
  by_cases hlt:k < n
  ·obtain ⟨b,off,x,rfl,hbb,hx,hcell⟩:=HL.out.cell hlt
   obtain ⟨y,hy,rfl⟩:=nts_get hx
   have hy1:=HX.out y (List.mem_of_getElem? hy)
   have e1:nbs (l.take k)++be 4 y=nbs (l.take (k+1)):=by
    rw [List.take_add_one,hy,nbs_append]
    simp [nbs_one]
   have E1:=Lib.hid e1
   have hc2:wr.cell? ⟨b,off+k,none⟩=some (.int .i64 (y:Int)):=(hb.cell (p:=⟨b,off+k,none⟩) hbb).trans hcell
   obtain ⟨A1,c1,rfl,hc1,hm1,hr1⟩:=hown.shape
   have hll:(nbs (l.take k)).length≤4000:=by
    rw [nbs_length,List.length_take,Hlen.out]
    omega
   have K:=fun W (hB:Below wr.heap.size wr W)=>putNumber_yes A1 (nbs (l.take k)).length c1 (nbs (l.take k)) (y:Int) W (hr1.below hB) (by omega) (by omega) (by omega)
   have K1:=Lib.hid (K wr (Below.refl _ _))
   have HB:=Lib.hid hb
   have HX2:=Lib.hid hx
   have HY:=Lib.hid hy
   have HK:=Lib.hid hk
   obtain ⟨M,hM⟩ : ∃ M,M=(nbs (l.take k)++be 4 y).length:=⟨_,rfl⟩
   have HM:=Lib.hid hM
   clear hM
   clear e1 hx hy hcell hown hr1 K hb hk
   generalize (nbs (l.take k)).length=m at hc1 hll K1
   generalize nbs (l.take k)=bs at E1 K1 HM
   go_wp2_with (first | (go_at_call 201;refine K1.out.mono ?_;rintro e w1 ⟨v1,rfl,hown1,hb1⟩;rw [Int.toNat_natCast] at hown1;obtain ⟨A2,c2,rfl,hc2',hm2,hr2⟩:=hown1.shapeN HM.out.symm) | (go_at_call 150;refine (need_yes _ _ _ _).mono ?_;rintro e w2 ⟨rfl,rfl⟩))
   rw [E1.out] at hown1
   go_roundw
   case rel=>exact ⟨k+1,by rw [Hlen.out];exact hlt,by go_num,hown1.mono HB.out.size,HB.out.trans (hb1.mono HB.out.size)⟩
   case measure=>simp [Go.RowKit.intOf];omega
  ·obtain rfl:k=n:=by have:=Hlen.out;omega
   have e1:l.take k=l:=List.take_of_length_le (by rw [Hlen.out];exact Nat.le_refl _)
   rw [e1] at hown
   clear e1
   go_wp2
   go_ret
   exact ⟨_,rfl,hown,hb⟩
set_option maxHeartbeats 1000000 in
theorem blank_any {A:Option Addr} {n c:Nat} {l:List UInt8} {w:World} (h:Rd w A n l) (hn:n≤1000000) :
  Calls Tryz.prog 191 #[.slice A n c] w fun e w'=>e = .returned (.bool (allz l))∧w'=w:=by
 have HL:=Lib.hid h
 have Hlen:=Lib.hid h.len
 clear h
 go_enter Tryz.func191,Tryz.ntmps191
 go_wp2
 go_loop [7] (fun i => ∃ k:Nat,k≤n∧i = .int .i64 (k:Int)∧allz (l.take k)=true) (fun i=>n - (Go.RowKit.intOf i).toNat)
 case atStart=>exact ⟨0,Nat.zero_le _,rfl,rfl⟩
 case round =>
  obtain ⟨k,hk,rfl,hz⟩:=hrel
  have HZ:=Lib.hid hz
  clear hz
  by_cases hlt:k < n
  ·obtain ⟨b,off,x,rfl,hbb,hx,hcell⟩:=HL.out.cell hlt
   have HX:=Lib.hid hx
   clear hx
   by_cases h0:x=0
   ·subst h0
    have e1:allz (l.take (k+1))=true:=by
     have:=HZ.out
     rw [List.take_add_one,HX.out,allz,List.all_append]
     unfold allz at this
     rw [this]
     rfl
    have E1:=Lib.hid e1
    have e0:((0:UInt8).toNat:Int)=0:=rfl
    rw [e0] at hcell
    clear e1 e0
    go_wp2
    refine ⟨⟨k+1,hlt,by go_num,E1.out⟩,by simp [Go.RowKit.intOf];omega⟩
   ·have hne : ¬ (x.toNat:Int)=0:=fun e=>h0 (by
     have:x.toNat=0:=by omega
     exact UInt8.toNat_inj.1 this)
    have e1:allz l=false:=by
     rw [allz,List.all_eq_false]
     exact ⟨x,List.mem_of_getElem? HX.out,by simpa using h0⟩
    have E1:=Lib.hid e1
    generalize (x.toNat:Int)=y at hcell hne
    clear e1
    go_wp2
    go_ret
    exact ⟨by rw [E1.out];rfl,rfl⟩
  ·obtain rfl:k=n:=by omega
   have e1:l.take k=l:=List.take_of_length_le (by rw [Hlen.out];exact Nat.le_refl _)
   have e2:allz l=true:=by
    have:=HZ.out
    rwa [e1] at this
   have E2:=Lib.hid e2
   clear e1 e2
   go_wp2
   go_ret
   exact ⟨by rw [E2.out];rfl,rfl⟩
theorem zcells_bvs (N:Nat):zcells N=bvs (List.replicate N 0):=by simp [zcells,bvs,bv]
theorem bvs_pad (N:Nat) (l:List UInt8):bvs (pad N l)=bvs l++(zcells N).drop l.length:=by
 unfold pad
 rw [bvs_append,zcells_bvs]
 congr 1
 simp [bvs]
theorem run_copy_pad {P:Program} {W:World} (dT sT ty U:TypeId) (hu:P.underlying dT=some (.slice U)) (hinfo:(P.info? U).map (fun i=>(i.zero,i.size,i.bytes))=some (some (.int .u8 0),1,1)) {N:Nat} {A:Option Addr} {m c:Nat} {l:List UInt8} (h:Rd W A m l) (hm:m≤N) :
  (Builtin.copy_ #[dT,sT] ty #[.slice (some ⟨W.heap.size,0,none⟩) N N, .slice A m c]).run P (W.alloc (.cells (zcells N).toArray U)) = .ok (.int .i64 (m:Int)) (W.alloc (.cells (bvs (pad N l)).toArray U)):=by
 have hl:=h.len
 obtain ⟨i0,hi,hz0,hz1,hz2⟩:=info_parts hinfo
 have hsz:(P.info? U).map (·.size)=some 1:=by rw [hi];simp [hz1]
 by_cases h0:m=0
 ·subst h0
  obtain rfl:l = []:=List.eq_nil_of_length_eq_zero hl
  rw [bvs_pad]
  exact run_copy_none (P:=P) _ dT sT ty U _ _ N N 0 c hu hsz rfl
 ·obtain ⟨b,off,rfl,hb,hcell⟩:=h.at_ (by omega)
  have hrun:=run_copy_row (P:=P) (W.alloc (.cells (zcells N).toArray U)) dT sT ty U W.heap.size 0 N N ⟨b,off,none⟩ m c (zcells N).toArray U (bvs l) hu hsz (heap_alloc_new W _)
   (by rw [bvs_length,hl];exact (Nat.min_eq_left hm).symm) (fun j v hj=>by
    obtain ⟨x,hx,rfl⟩:=bvs_get hj
    rw [add_plain,World.cell?_alloc_lt W _ _ hb]
    exact hcell j x hx) (by rw [bvs_length,hl,List.size_toArray,zcells_length];omega) (bvs_one _)
  rw [hrun,bvs_length,hl]
  rw [World.setRow_alloc_new,bvs_pad,hl]
  simp [goInt]
end Go.Proofs.YtcodpnbemdflcaaGreatDoor
namespace Go.Proofs.YtcodpnbemdflcaaGreatDoor
open Go.RowKit
set_option maxHeartbeats 2000000 in
theorem laid_any {c:Ct} (h:c.Ok) (w:World):Calls Tryz.prog 136 #[c.val] w (Gives w c.laid):=by
 have K1:=Whole.new w c.cs.toArray 152
 have B1:Below w.heap.size w (w.alloc (.cells c.cs.toArray 152)):=(Below.refl _ _).alloc (Nat.le_refl _) _
 have hx1 : ∀ x ∈ c.hd,x≤2147483647:=by
  intro x hx
  have:=h.k2;have:=h.ag;have:=h.nu;have:=h.pl;have:=h.sz
  simp [Ct.hd] at hx
  omega
 have htx:c.tx.length≤36:=h.tx
 have hsz0:(ByteArray.mk c.tx.toArray).size=c.tx.length:=by
  show c.tx.toArray.size=_
  simp
 have hfin:sealOf (pad 60 (nbs c.hd++be 4 (ByteArray.mk c.tx.toArray).size++(ByteArray.mk c.tx.toArray).data.toList))=c.laid:=by
  simp [Ct.laid,Ct.raw,hsz0]
 have hrl:(nbs c.hd++be 4 (ByteArray.mk c.tx.toArray).size++(ByteArray.mk c.tx.toArray).data.toList).length≤60:=by
  simp [nbs_length,Ct.hd,be_length]
  omega
 have hsz:(ByteArray.mk c.tx.toArray).size≤65536:=by
  omega
 have hnl:(nbs c.hd).length=20:=by simp [nbs_length,Ct.hd]
 have HF:=Lib.hid hfin
 have HR:=Lib.hid hrl
 have HZ:=Lib.hid hsz
 have HN:=Lib.hid hnl
 have HX:=Lib.hid hx1
 unfold Ct.val Ct.cs sv at *
 unfold Ct.hd at HX HF HR HN
 clear hfin hrl hsz hnl hx1 htx hsz0
 generalize c.kd=a at *
 generalize c.ag=b at *
 generalize c.nu=d at *
 generalize c.pl=f at *
 generalize c.sz=g at *
 generalize ByteArray.mk c.tx.toArray=s at *
 have K:=Lib.hid K1
 have B:=Lib.hid B1
 clear K1 B1
 clear h
 go_enter Tryz.func136,Tryz.ntmps136
 go_wp2_with fail
 have B2:=B.out.alloc (by simp) (.cells #[.int .i64 (a:Int), .int .i64 (b:Int), .int .i64 (d:Int), .int .i64 (f:Int), .int .i64 (g:Int)] 3)
 have K2:=K.out.alloc (.cells #[.int .i64 (a:Int), .int .i64 (b:Int), .int .i64 (d:Int), .int .i64 (f:Int), .int .i64 (g:Int)] 3)
 have R2:=(Whole.new (w.alloc (.cells #[.int .i64 (a:Int), .int .i64 (b:Int), .int .i64 (d:Int), .int .i64 (f:Int), .int .i64 (g:Int), .string s] 152)) #[.int .i64 (a:Int), .int .i64 (b:Int), .int .i64 (d:Int), .int .i64 (f:Int), .int .i64 (g:Int)] 3).rd
 rw [show (w.alloc (.cells #[.int .i64 (a:Int), .int .i64 (b:Int), .int .i64 (d:Int), .int .i64 (f:Int), .int .i64 (g:Int), .string s] 152)).heap.size=w.heap.size+1 by simp] at R2
 generalize (w.alloc (.cells #[.int .i64 (a:Int), .int .i64 (b:Int), .int .i64 (d:Int), .int .i64 (f:Int), .int .i64 (g:Int), .string s] 152)).alloc (.cells #[.int .i64 (a:Int), .int .i64 (b:Int), .int .i64 (d:Int), .int .i64 (f:Int), .int .i64 (g:Int)] 3)=W at B2 K2 R2 ⊢
 refine (lnumbers_any (l := [a,b,d,f,g]) (A:=some ⟨w.heap.size+1,0,none⟩) (n:=5) (c:=5) (by simpa [nts] using R2) (by omega) HX.out).mono ?_
 rintro e w1 ⟨v1,rfl,hown1,hb1⟩
 obtain ⟨A1,c1,rfl,hc1,hm1,hr1⟩:=hown1.shapeN HN.out
 have K3:=K2.below hb1
 have B3:=B2.trans (hb1.mono B2.size)
 have k0:=K3.cell 5
 simp only [List.getElem?_cons_succ,List.getElem?_cons_zero] at k0
 clear K2 R2 B2 hown1 hb1 K B HX
 have P1:=putText_yes A1 20 c1 _ s w1 hr1 (by omega) HZ.out
 have hmk:=run_make_bytes (P:=Tryz.prog) Tryz.underlying93 Tryz.infoU8 60 60 (by omega) (by omega)
 simp only [Int.cast_ofNat_Int] at hmk
 generalize nbs [a,b,d,f,g]++be 4 s.size++s.data.toList=L at HF HR P1
 obtain ⟨M,hM⟩ : ∃ M,L.length=M:=⟨_,rfl⟩
 rw [hM] at HR
 have HM:=Lib.hid hM
 have hM60:=HR.out
 have HB3:=Lib.hid B3
 clear hM hr1 K3 B3 HN HZ
 go_wp2_with (first | (go_at_call 183;refine P1.mono ?_;rintro e w2 ⟨v2,rfl,hown2,hb2⟩;obtain ⟨A2,c2,rfl,hc2,hm2,hr2⟩:=hown2.shapeN HM.out;have kcp:=fun ty=>run_copy_pad (P:=Tryz.prog) 93 93 ty 5 Tryz.underlying93 Tryz.infoU8 (c:=c2) hr2 hM60) | (go_at_call 150;refine (need_yes _ _ _ _).mono ?_;rintro e w3 ⟨rfl,rfl⟩))
 have B4:=HB3.out.trans (hb2.mono HB3.out.size)
 have hp:(pad 60 L).length=60:=pad_length (by rw [HM.out];exact hM60)
 have R4:=Rd.lit (U:=5) (w:=w3) (l:=pad 60 L) (bvs (pad 60 L)).toArray rfl (by rw [hp];simp [maxLen])
 rw [hp] at R4
 have B5:=B4.alloc B4.size (.cells (bvs (pad 60 L)).toArray 5)
 generalize w3.alloc (.cells (bvs (pad 60 L)).toArray 5)=W5 at R4 B5 ⊢
 refine (seal_any _ 60 60 _ W5 R4 (by omega)).mono ?_
 rintro e w6 ⟨v6,rfl,hown6,hb6⟩
 obtain ⟨A6,c6,rfl,hc6,hm6,hr6⟩:=hown6.shapeN (n:=64) (by rw [List.length_append,hp,be_length])
 have H6:=Lib.hid (And.intro (hown6.mono B5.size) (B5.trans (hb6.mono B5.size)))
 clear hown6 hb6 hr6 R4 B5 B4 hb2 hown2 hr2 kcp P1
 go_wp2
 go_ret
 refine ⟨_,rfl,?_,H6.out.2⟩
 rw [← HF.out]
 exact H6.out.1
end Go.Proofs.YtcodpnbemdflcaaGreatDoor
namespace Go.Proofs.YtcodpnbemdflcaaGreatDoor
open Go.RowKit
theorem run_mid {P:Program} {t U:TypeId} (ht:P.underlying t=some (.slice U)) (hinfo:(P.info? U).map (fun i=>(i.zero,i.size,i.bytes))=some (some (.int .u8 0),1,1)) (A:Option Addr) (n c i j:Nat) (hi:i≤j) (hj:j≤n) (hc:n≤c) :
  ∃ A':Option Addr,(∀ W:World,(Instr.slice t (.slice A n c) (some (.int .i64 (i:Int))) (some (.int .i64 (j:Int))) none).run P W = .ok (.slice A' (j - i) (c - i)) W)∧(∀ (W:World) (l:List UInt8),Rd W A n l→Rd W A' (j - i) ((l.take j).drop i)):=by
 refine ⟨if c=i then A else A.map (·.add i),fun W => ?_,fun W l hr=>(hr.take hj).cut hi (by omega)⟩
 have he:P.elem t=U:=by simp [Program.elem,ht]
 rw [run_slice_lh W t A n c (by rw [he];exact ht) .i64 .i64 (i:Int) (j:Int) (by omega) (by omega) (by omega),he,Lib.byte_size hinfo W]
 simp only [Result.andThen,sliced,Int.toNat_natCast,Nat.mul_one]
theorem lg_results {fn:Func} {p:Tmp} {ty t:TypeId} (h:fn.results = #[.cell p ty]) (tmps:Array Value) (w:World) (g:Nat) (cs:List Value)
  (hp:tmps.getD p undef = .pointer (some ⟨g,0,none⟩)) (hg:Whole w g t cs)
  {fs:_} (hu:Tryz.prog.underlying ty=some (.struct fs)) (hi:(Tryz.prog.info? ty).map (·.size)=some cs.length) :
  (results fn tmps).run Tryz.prog w = .ok (.agg cs.toArray) w:=results_cell_row h tmps w g t cs.toArray (0,0) (.struct fs) hp hg hu rfl (by simpa using hi)
set_option maxHeartbeats 1000000 in
theorem number_cl {w:World} {v g a:Nat} {r:List UInt8} (hv:w.cell? ⟨v,0,none⟩=some (.pointer (some ⟨g,0,none⟩))) (hr:Rdr w g (be 4 a++r)) (ha:a≤2147483647) :
  Calls Tryz.prog 195 #[.pointer (some ⟨v,0,none⟩)] w fun e w'=>e = .returned (.int .i64 (a:Int))∧Rdr w' g r∧w.grownBy w' (some g):=by
 have hc:=number_any g _ w hr
 rw [rnum_put a ha r] at hc
 have HC:=Lib.hid hc
 clear hc hr
 go_enter Tryz.func195,Tryz.ntmps195
 go_wp2_with (first | (go_at_call 197;refine HC.out.mono ?_;rintro e w1 ⟨rfl,hr1,hg1⟩) | (go_at_call 196;refine (right_num_yes _ _).mono ?_;rintro e w2 ⟨rfl,rfl⟩))
 go_ret
 rw [drop_be] at hr1
 exact ⟨rfl,hr1,hg1⟩
theorem padraw (c:Ct):pad 60 c.raw=be 4 c.kd++(be 4 c.ag++(be 4 c.nu++(be 4 c.pl++(be 4 c.sz++(be 4 c.tx.length++(c.tx++List.replicate (60 - c.raw.length) 0)))))):=by
 simp [pad,Ct.raw,Ct.hd,nbs]
theorem Ct.Ok.sealed {c:Ct} (h:c.Ok):c.laid.take (64 - 4)=pad 60 c.raw:=by
 have:(pad 60 c.raw).length=60:=pad_length (by rw [Ct.raw_length];have:=h.tx;omega)
 rw [Ct.laid,sealOf,List.take_append_of_le_length (by omega),List.take_of_length_le (by omega)]
theorem Rd.off {w:World} {A:Option Addr} {n:Nat} {l:List UInt8} (h:Rd w A n l) {g:Nat} {t:TypeId} {cs:List Value} (hg:Whole w g t cs) (hcs : ∀ x ∈ cs, ∀ m,x ≠ .int .u8 m) (j:Nat) (v:Value):Rd (w.setCell ⟨g,j,none⟩ v) A n l :=
 ⟨h.len,fun hn=>by
  obtain ⟨b,o,x,e,hb,hx,hc⟩:=h.cell (j:=0) hn
  have hne:b≠g:=by
   rintro rfl
   rw [hg.cell] at hc
   exact hcs _ (List.mem_of_getElem? hc) _ rfl
  obtain ⟨b',o',e',hb',hc'⟩:=h.at_ hn
  rw [e] at e'
  simp only [Option.some.injEq,Addr.mk.injEq,and_true] at e'
  obtain ⟨rfl,rfl⟩:=e'
  exact ⟨b,o,e,by simpa [World.setCell] using hb,fun j' x' hx'=>(World.cell?_of_block (a:=⟨b,o+j',none⟩) ((grown_set w g j v).block b hb (by simpa using hne))).trans (hc' j' x' hx')⟩⟩
theorem Rdr.off {w:World} {r:Nat} {l:List UInt8} (h:Rdr w r l) {g:Nat} {t:TypeId} {cs:List Value} (hg:Whole w g t cs) (hne:r≠g) (hcs : ∀ x ∈ cs, ∀ m,x ≠ .int .u8 m) (j:Nat) (v:Value):Rdr (w.setCell ⟨g,j,none⟩ v) r l:=by
 obtain ⟨A,n,c,h1,h2,h3,h4⟩:=h
 exact ⟨A,n,c,((grown_set w g j v).block r (Array.getElem?_eq_some_iff.1 h1).1 (by simpa using hne)).trans h1,h2.off hg hcs j v,h3,h4⟩
def CtPost (w:World) (c:Ct) (e:Ending) (w':World):Prop:=e = .returned c.val∧Below w.heap.size w w'
set_option maxHeartbeats 1000000 in
theorem sector_zero {A:Option Addr} {n:Nat} {w:World} (h:Rd w A 64 zs):Calls Tryz.prog 149 #[.slice A 64 n] w (CtPost w Ct.zero):=by
 have h1:=h.alloc (.cells #[.int .i64 0, .int .i64 0, .int .i64 0, .int .i64 0, .int .i64 0, .string ⟨#[]⟩] 152)
 have hb:=blank_any (c:=n) h1 (by omega)
 rw [allz_zs] at hb
 have B1:Below w.heap.size w (w.alloc (.cells #[.int .i64 0, .int .i64 0, .int .i64 0, .int .i64 0, .int .i64 0, .string ⟨#[]⟩] 152)):=(Below.refl _ _).alloc (Nat.le_refl _) _
 have K1:=Whole.new w #[.int .i64 0, .int .i64 0, .int .i64 0, .int .i64 0, .int .i64 0, .string ⟨#[]⟩] 152
 clear h h1
 go_enter Tryz.func149,Tryz.ntmps149
 go_wp2_with (go_at_call 191;refine hb.mono ?_;rintro e w1 ⟨rfl,rfl⟩)
 refine bodyPost_ret (lg_results rfl _ _ w.heap.size _ rfl K1 Tryz.underlying152 (by kernel_rfl)) rfl ⟨rfl,B1⟩
set_option maxRecDepth 20000 in
set_option maxHeartbeats 4000000 in
theorem sector_laid {A:Option Addr} {n:Nat} {c:Ct} {w:World} (hc:c.Ok) (h:Rd w A 64 c.laid) (hn:64≤n) (hm:n≤maxLen):Calls Tryz.prog 149 #[.slice A 64 n] w (CtPost w c):=by
 have h1:=h.alloc (.cells #[.int .i64 0, .int .i64 0, .int .i64 0, .int .i64 0, .int .i64 0, .string ⟨#[]⟩] 152)
 have hb:=blank_any (c:=n) h1 (by omega)
 rw [hc.notz] at hb
 have B1:Below w.heap.size w (w.alloc (.cells #[.int .i64 0, .int .i64 0, .int .i64 0, .int .i64 0, .int .i64 0, .string ⟨#[]⟩] 152)):=(Below.refl _ _).alloc (Nat.le_refl _) _
 have K1:=Whole.new w #[.int .i64 0, .int .i64 0, .int .i64 0, .int .i64 0, .int .i64 0, .string ⟨#[]⟩] 152
 have ho:=open_yes A 64 n c.laid _ h1 (by omega) hn hm (by omega) (by rw [hc.sealed];rfl)
 rw [hc.sealed] at ho
 have hp:(pad 60 c.raw).length=60:=pad_length (by rw [Ct.raw_length];have:=hc.tx;omega)
 have HP:=Lib.hid hp
 have HC:=Lib.hid hc
 have H:=Lib.hid h
 clear h h1 hp hc
 go_enter Tryz.func149,Tryz.ntmps149
 go_wp2_with (first | (go_at_call 191;refine hb.mono ?_;rintro e w1 ⟨rfl,rfl⟩) | (go_at_call 194;refine ho.mono ?_;rintro e w1 ⟨v1,rfl,hown1,hb1⟩;obtain ⟨A1,c1,rfl,hc1,hm1,hr1⟩:=hown1.shapeN HP.out) | (go_at_call 193;refine (right_bytes _ _ _ _).mono ?_;rintro e w2 ⟨rfl,rfl⟩))
 have K2:=K1.below hb1
 have B2:=B1.trans (hb1.mono B1.size)
 clear K1 B1 hb1 hown1 ho hb
 refine (new_any A1 60 c1 _ w2 hr1 (by omega)).mono ?_
 rintro e w3 ⟨g,rfl,hg1,hg2,hr3,hb3⟩
 have K3:=(K2.below hb3).alloc (.cells #[.pointer (some ⟨g,0,none⟩)] 234)
 have B3:=(B2.trans (hb3.mono B2.size)).alloc (by have:=B2.size;have:=hb3.size;omega) (.cells #[.pointer (some ⟨g,0,none⟩)] 234)
 have V3:=Whole.new w3 #[.pointer (some ⟨g,0,none⟩)] 234
 have hl2:=K2.lt
 have hb2:=B2.size
 have R3:Rdr (w3.alloc (.cells #[.pointer (some ⟨g,0,none⟩)] 234)) g (pad 60 c.raw):=by
  obtain ⟨A,n,c,h1,h2,h3,h4⟩:=hr3
  exact ⟨A,n,c,(Below.heap_alloc _ _ _ hg2).trans h1,h2.alloc _,h3,h4⟩
 clear K2 B2 hr1 hb3 hr3
 dsimp only
 go_wp2_with fail
 generalize hv:w3.heap.size=v at V3 hg2 ⊢
 generalize w3.alloc (.cells #[.pointer (some ⟨g,0,none⟩)] 234)=W at K3 B3 V3 R3 ⊢
 clear hv
 have hgv:v≠g:=by omega
 have hgw:w.heap.size≠g:=by omega
 have b1:c.kd≤2147483647:=by have:=HC.out.k2;omega
 have b2:=HC.out.ag
 have b3:=HC.out.nu
 have b4:=HC.out.pl
 have b5:=HC.out.sz
 have b6:=HC.out.tx
 rw [padraw] at R3
 have Hgv:=Lib.hid hgv
 have Hgw:=Lib.hid hgw
 have Hgr:Hid (w.heap.size≤g):=Lib.hid (by omega)
 have HB:=Lib.hid B3
 have HK:=Lib.hid K3
 have V4:=V3.cell 0
 clear B3 K3 hgv hgw hg1 hg2 hl2 hb2
 refine (number_cl V4 R3 b1).mono ?_
 rintro e w4 ⟨rfl,R4,G4⟩
 clear V4
 have V4:=(V3.grown G4 Hgv.out).cell 0
 have HG:=Lib.hid G4
 clear R3 G4
 dsimp only
 go_wp2_with fail
 refine (number_cl V4 R4 b2).mono ?_
 rintro e w5 ⟨rfl,R5,G5⟩
 have HG:=Lib.hid (grown_trans HG.out G5)
 clear V4
 have V5:=(V3.grown HG.out Hgv.out).cell 0
 clear R4 G5
 dsimp only
 go_wp2_with fail
 refine (number_cl V5 R5 b3).mono ?_
 rintro e w6 ⟨rfl,R6,G6⟩
 have HG:=Lib.hid (grown_trans HG.out G6)
 clear V5
 have V6:=(V3.grown HG.out Hgv.out).cell 0
 clear R5 G6
 dsimp only
 go_wp2_with fail
 refine (number_cl V6 R6 b4).mono ?_
 rintro e w7 ⟨rfl,R7,G7⟩
 have HG:=Lib.hid (grown_trans HG.out G7)
 clear V6
 have V7:=(V3.grown HG.out Hgv.out).cell 0
 clear R6 G7
 dsimp only
 go_wp2_with fail
 refine (number_cl V7 R7 b5).mono ?_
 rintro e w8 ⟨rfl,R8,G8⟩
 have HG:=Lib.hid (grown_trans HG.out G8)
 clear V7
 have V8:w8.cell? ⟨v,0,none⟩=some (.pointer (some ⟨g,0,none⟩)):=(V3.grown HG.out Hgv.out).cell 0
 have V9 : ∀ o,(w8.alloc o).cell? ⟨v,0,none⟩=some (.pointer (some ⟨g,0,none⟩)):=fun o=>((V3.grown HG.out Hgv.out).alloc o).cell 0
 clear R7 G8
 dsimp only
 go_wp2_with fail
 clear V9
 have KC:=Whole.new w8 #[.int .i64 (c.kd:Int), .int .i64 (c.ag:Int), .int .i64 (c.nu:Int), .int .i64 (c.pl:Int), .int .i64 (c.sz:Int), .string ⟨#[]⟩] 152
 have G9:=grown_trans HG.out (grown_below ((Below.refl w8.heap.size w8).alloc (Nat.le_refl _) (.cells #[.int .i64 (c.kd:Int), .int .i64 (c.ag:Int), .int .i64 (c.nu:Int), .int .i64 (c.pl:Int), .int .i64 (c.sz:Int), .string ⟨#[]⟩] 152)) (some g))
 have R9:Rdr (w8.alloc (.cells #[.int .i64 (c.kd:Int), .int .i64 (c.ag:Int), .int .i64 (c.nu:Int), .int .i64 (c.pl:Int), .int .i64 (c.sz:Int), .string ⟨#[]⟩] 152)) g (be 4 c.tx.length++(c.tx++List.replicate (60 - c.raw.length) 0)):=by
  obtain ⟨A,n,c,h1,h2,h3,h4⟩:=R8
  have hg:g < w8.heap.size:=(Array.getElem?_eq_some_iff.1 h1).1
  exact ⟨A,n,c,(Below.heap_alloc _ _ _ hg).trans h1,h2.alloc _,h3,h4⟩
 have hgc:w8.heap.size≠g:=by
  obtain ⟨A,n,c,h1,h2,h3,h4⟩:=R8
  have hg:g < w8.heap.size:=(Array.getElem?_eq_some_iff.1 h1).1
  omega
 have hW8:=HG.out.size
 have hWB:=HB.out.size
 have hWK:=HK.out.lt
 generalize hcb:w8.heap.size=cb at KC R9 hgc hW8 ⊢
 generalize w8.alloc (.cells #[.int .i64 (c.kd:Int), .int .i64 (c.ag:Int), .int .i64 (c.nu:Int), .int .i64 (c.pl:Int), .int .i64 (c.sz:Int), .string ⟨#[]⟩] 152)=W9 at KC G9 R9 ⊢
 have HW8:=Lib.hid (And.intro hcb (And.intro hW8 (And.intro hWB hWK)))
 clear hcb hW8 hWB hWK V8 R8 b1 b2 b3 b4 b5
 have kt:=text_any g _ W9 R9
 rw [rtext_put c.tx (by omega)] at kt
 dsimp only at kt
 obtain ⟨lf,hlf⟩ : ∃ lf,lf=60 - c.raw.length:=⟨_,rfl⟩
 rw [← hlf] at kt R9
 have hrl:=c.raw_length
 have hlf36:lf=36 - c.tx.length:=by omega
 obtain ⟨A2,hsl,hsr⟩:=run_mid (P:=Tryz.prog) Tryz.underlying93 Tryz.infoU8 A 64 n (60 - lf) 60 (by omega) (by omega) hn
 rw [show (((60 - lf:Nat)):Int)=60 - (lf:Int) by omega] at hsl
 simp only [Int.cast_ofNat_Int] at hsl
 have hzz:(c.laid.take 60).drop (60 - lf)=List.replicate lf 0:=by
  have:=HC.out.sealed
  rw [show 64 - 4=60 from rfl] at this
  rw [this,show 60 - lf=24+c.tx.length by omega,c.behind,hlf]
 have HZZ:=Lib.hid hzz
 have Hlf:=Lib.hid (And.intro hlf (And.intro hlf36 hrl))
 have hcl:lf≤36:=by omega
 have he0:((c.tx.length:Int))≤36:=by omega
 have hkd : ¬ (c.kd:Int)=0:=by have:=HC.out.k1;omega
 have hkn:((c.kd:Int) != 0)=true:=by simpa using hkd
 have HR9:=Lib.hid R9
 have Hsr:=Lib.hid hsr
 have Hgc:=Lib.hid hgc
 have hdr:(be 4 c.tx.length++(c.tx++List.replicate lf 0)).drop (4+c.tx.length)=List.replicate lf 0:=by
  rw [← List.append_assoc,List.drop_append_of_le_length (by simp [be_length]),List.drop_of_length_le (by simp [be_length]),List.nil_append]
 have Hdr:=Lib.hid hdr
 clear hzz hlf hlf36 hrl R9 hsr hgc hdr
 refine kt.mono ?_
 rintro e w10 ⟨rfl,R10,G10⟩
 rw [Hdr.out] at R10
 have KC0:=KC.grown G10 Hgc.out
 have x5:=KC0.cell 5
 have z5:=KC0.free 5
 have G11:=grown_trans G9 G10
 have V10:=V3.grown G11 Hgv.out
 obtain ⟨e1,e2,e3,e4⟩:=HW8.out
 have hvc:v≠cb:=by
  have:=V3.lt
  omega
 have hrc:w.heap.size≠cb:=by omega
 have B10:Below w.heap.size w w10:=below_grown HB.out G11 e3 (by have:=Hgr.out;omega)
 have hs10:=G11.size
 have K12:Whole (w10.setCell ⟨cb,5,none⟩ (.string ⟨c.tx.toArray⟩)) cb 152 c.cs:=KC0.set 5 (.string ⟨c.tx.toArray⟩)
 have B12:Below w.heap.size w (w10.setCell ⟨cb,5,none⟩ (.string ⟨c.tx.toArray⟩)):=below_grown B10 (grown_set w10 cb 5 (.string ⟨c.tx.toArray⟩)) B10.size (by omega)
 have R12:=R10.off KC0 Hgc.out.symm (by
  intro x hx m
  simp at hx
  rcases hx with rfl | rfl | rfl | rfl | rfl | rfl <;> simp) 5 (.string ⟨c.tx.toArray⟩)
 have KR:=(HK.out.grown G11 Hgw.out).grown (grown_set w10 cb 5 (.string ⟨c.tx.toArray⟩)) hrc
 have V12:(w10.setCell ⟨cb,5,none⟩ (.string ⟨c.tx.toArray⟩)).cell? ⟨v,0,none⟩=some (.pointer (some ⟨g,0,none⟩)):=(V10.grown (grown_set w10 cb 5 (.string ⟨c.tx.toArray⟩)) hvc).cell 0
 clear KC KC0 HR9 G9 G10 G11 V10 B10 e1 e2 e3 e4 R10
 dsimp only
 go_upto_region 7 with (go_at_call 198;refine (right_text _ _).mono ?_;rintro e w11 ⟨rfl,rfl⟩)
 clear kt x5 z5
 generalize w11.setCell ⟨cb,5,none⟩ (.string ⟨c.tx.toArray⟩)=W12 at K12 B12 R12 KR V12 ⊢
 have hL:=left_any g _ W12 R12
 rw [List.length_replicate] at hL
 have hS:=Hsr.out W12 c.laid (H.out.below B12)
 rw [HZZ.out] at hS
 rw [show 60 - (60 - lf)=lf by omega] at hsl hS
 have hbl:=blank_any (c:=n - (60 - lf)) hS (by omega)
 rw [allz_reps] at hbl
 have x0:W12.cell? ⟨cb,0,none⟩=some (.int .i64 (c.kd:Int)):=K12.cell 0
 have x1:W12.cell? ⟨cb,1,none⟩=some (.int .i64 (c.ag:Int)):=K12.cell 1
 have x2:W12.cell? ⟨cb,2,none⟩=some (.int .i64 (c.nu:Int)):=K12.cell 2
 have x3:W12.cell? ⟨cb,3,none⟩=some (.int .i64 (c.pl:Int)):=K12.cell 3
 have x4:W12.cell? ⟨cb,4,none⟩=some (.int .i64 (c.sz:Int)):=K12.cell 4
 have x5:W12.cell? ⟨cb,5,none⟩=some (.string ⟨c.tx.toArray⟩):=K12.cell 5
 clear R12 hS hvc
 go_upto_region 8 with (first | (go_at_call 200;refine hL.mono ?_;rintro e w12 ⟨rfl,hw12⟩;subst hw12) | (go_at_call 191;refine hbl.mono ?_;rintro e w13 ⟨rfl,hw13⟩;subst w13) | (go_at_call 104;refine (insist_yes _).mono ?_;rintro e w14 ⟨rfl,hw14⟩;subst w14))
 clear hL hbl hsl V12
 have r0:=KR.cell 0
 have r1:=KR.cell 1
 have r2:=KR.cell 2
 have r3:=KR.cell 3
 have r4:=KR.cell 4
 have r5:=KR.cell 5
 have z0:=KR.free 0
 have z1:=KR.free 1
 have z2:=KR.free 2
 have z3:=KR.free 3
 have z4:=KR.free 4
 have z5:=KR.free 5
 simp only [List.getElem?_cons_succ,List.getElem?_cons_zero] at r0 r1 r2 r3 r4 r5
 have KF:Whole (((((((W12.setCell ⟨w.heap.size,0,none⟩ (.int .i64 (c.kd:Int))).setCell ⟨w.heap.size,1,none⟩ (.int .i64 (c.ag:Int))).setCell ⟨w.heap.size,2,none⟩ (.int .i64 (c.nu:Int))).setCell ⟨w.heap.size,3,none⟩ (.int .i64 (c.pl:Int))).setCell ⟨w.heap.size,4,none⟩ (.int .i64 (c.sz:Int))).setCell ⟨w.heap.size,5,none⟩ (.string ⟨c.tx.toArray⟩))) w.heap.size 152 c.cs :=
  (((((KR.set 0 _).set 1 _).set 2 _).set 3 _).set 4 _).set 5 _
 have BF:=below_grown B12 (grown_sets6 (wr:=W12) (b:=w.heap.size) (o:=0) (.int .i64 (c.kd:Int)) (.int .i64 (c.ag:Int)) (.int .i64 (c.nu:Int)) (.int .i64 (c.pl:Int)) (.int .i64 (c.sz:Int)) (.string ⟨c.tx.toArray⟩)) B12.size (Nat.le_refl _)
 have HF:=Lib.hid (And.intro KF BF)
 clear KF BF K12 B12 KR
 go_wp2
 exact bodyPost_ret (lg_results rfl _ _ w.heap.size c.cs rfl HF.out.1 Tryz.underlying152 (by kernel_rfl)) rfl ⟨rfl,HF.out.2⟩
theorem readSector_any {A:Option Addr} {n:Nat} {x:List UInt8} {c:Ct} {w:World} (hc:Sec x c) (h:Rd w A 64 x) (hn:64≤n) (hm:n≤maxLen):Calls Tryz.prog 149 #[.slice A 64 n] w (CtPost w c):=by
 rcases hc with ⟨rfl,rfl⟩ | ⟨hc,rfl⟩
 ·exact sector_zero h
 ·exact sector_laid hc h hn hm
end Go.Proofs.YtcodpnbemdflcaaGreatDoor

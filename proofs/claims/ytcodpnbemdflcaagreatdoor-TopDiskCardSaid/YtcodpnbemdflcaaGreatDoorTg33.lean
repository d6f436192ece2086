/-
  Plain mathematics of a log's sectors: what a sector has, its bytes, and back; the pieces of records. No program, no condition.
  A log in memory: rows of contents, the log's struct, numbers and texts as cells, appends of one cell. Plain lemmas, no condition of their own.
  Package redo: the small helpers, where nothing goes wrong: contracts, one a function.
-/
import Derived.Test.YtcodpnbemdflcaaGreatDoorTg2
import Derived.Test.YtcodpnbemdflcaaGreatDoorTg3
import Derived.Deep.RegionWith
import Derived.RegionTactic
import Derived.Deep.QuietTactic
import Derived.BigQuiet
namespace Go.Proofs.YtcodpnbemdflcaaGreatDoor
open Go.RowKit
structure Ct where
 kd:Nat
 ag:Nat
 nu:Nat
 pl:Nat
 sz:Nat
 tx:List UInt8
def Ct.zero:Ct:=⟨0,0,0,0,0, []⟩
def Ct.hd (c:Ct):List Nat := [c.kd,c.ag,c.nu,c.pl,c.sz]
def nbs (l:List Nat):List UInt8:=l.flatMap (be 4)
theorem nbs_append (l m:List Nat):nbs (l++m)=nbs l++nbs m:=by simp [nbs]
theorem nbs_one (x:Nat):nbs [x]=be 4 x:=by simp [nbs]
theorem nbs_length (l:List Nat):(nbs l).length=4*l.length:=by
 induction l with
 | nil=>rfl
 | cons x r ih =>
  have:nbs (x :: r)=be 4 x++nbs r:=by simp [nbs]
  rw [this,List.length_append,be_length,ih]
  simp
  omega
def pad (n:Nat) (l:List UInt8):List UInt8:=l++List.replicate (n - l.length) 0
theorem pad_length {n:Nat} {l:List UInt8} (h:l.length≤n):(pad n l).length=n:=by
 simp [pad]
 omega
def Ct.raw (c:Ct):List UInt8:=nbs c.hd++be 4 c.tx.length++c.tx
theorem Ct.raw_length (c:Ct):c.raw.length=24+c.tx.length:=by
 simp [Ct.raw,nbs_length,Ct.hd,be_length]
 omega
def Ct.laid (c:Ct):List UInt8:=sealOf (pad 60 c.raw)
structure Ct.Ok (c:Ct):Prop where
 k1:1≤c.kd
 k2:c.kd≤2
 ag:c.ag≤2147483647
 nu:c.nu≤2147483647
 pl:c.pl≤2147483647
 sz:c.sz≤2147483647
 tx:c.tx.length≤36
theorem Ct.Ok.len {c:Ct} (h:c.Ok):c.laid.length=64:=by
 have:=h.tx
 rw [Ct.laid,sealOf,List.length_append,be_length,pad_length (by rw [Ct.raw_length];omega)]
def Sec (x:List UInt8) (c:Ct):Prop:=x=zs∧c=Ct.zero∨c.Ok∧x=c.laid
theorem Sec.len {x:List UInt8} {c:Ct} (h:Sec x c):x.length=64:=by
 rcases h with ⟨rfl,_⟩ | ⟨h,rfl⟩
 ·exact zs_length
 ·exact h.len
theorem sec_zero:Sec zs Ct.zero := .inl ⟨rfl,rfl⟩
def allz (l:List UInt8):Bool:=l.all fun x=>x == 0
theorem allz_zs:allz zs=true:=by simp [allz,zs]
theorem Ct.Ok.notz {c:Ct} (h:c.Ok):allz c.laid=false:=by
 have h1:=h.k1
 have h2:=h.k2
 have:c.laid[3]? = some (UInt8.ofNat c.kd):=by
  rw [Ct.laid,sealOf,pad,Ct.raw,Ct.hd]
  simp [nbs,be4]
 rw [allz,List.all_eq_false]
 refine ⟨_,List.mem_of_getElem? this,?_⟩
 simp
 intro e
 have:=congrArg UInt8.toNat e
 simp at this
 omega
theorem Ct.behind (c:Ct):(pad 60 c.raw).drop (24+c.tx.length)=List.replicate (60 - c.raw.length) 0:=by
 rw [pad, ← Ct.raw_length,List.drop_left]
theorem allz_reps (k:Nat):allz (List.replicate k 0)=true:=by simp [allz]
def np (n:Nat):Nat:=max 1 ((n+36 - 1) / 36)
theorem np_pos (n:Nat):1≤np n:=Nat.le_max_left _ _
end Go.Proofs.YtcodpnbemdflcaaGreatDoor
namespace Go.Proofs.YtcodpnbemdflcaaGreatDoor
open Go.RowKit
theorem Tryz.infoCt:(Tryz.prog.info? 152).map (fun i=>(i.zero,i.size,i.bytes))=some (some (.agg #[.int .i64 0, .int .i64 0, .int .i64 0, .int .i64 0, .int .i64 0, .string ⟨#[]⟩]),6,56):=by kernel_rfl
theorem Tryz.infoIntL:(Tryz.prog.info? 3).map (fun i=>(i.zero,i.size,i.bytes))=some (some (.int .i64 0),1,8):=by kernel_rfl
theorem Tryz.infoStr:(Tryz.prog.info? 9).map (fun i=>(i.zero,i.size,i.bytes))=some (some (.string ⟨#[]⟩),1,16):=by kernel_rfl
theorem Tryz.infoBld:(Tryz.prog.info? 168).map (fun i=>(i.zero,i.size,i.bytes))=some (some (.agg #[.pointer none, .slice none 0 0]),2,32):=by kernel_rfl
def nts (l:List Nat):List Value:=l.map fun k:Nat => .int .i64 (k:Int)
theorem nts_length (l:List Nat):(nts l).length=l.length:=by simp [nts]
theorem nts_append (l m:List Nat):nts (l++m)=nts l++nts m:=by simp [nts]
theorem nts_get {l:List Nat} {j:Nat} {v:Value} (h:(nts l)[j]? = some v) : ∃ k:Nat,l[j]? = some k∧v = .int .i64 (k:Int):=by
 simp only [nts,List.getElem?_map,Option.map_eq_some_iff] at h
 obtain ⟨x,hx,rfl⟩:=h
 exact ⟨x,hx,rfl⟩
def sv (t:List UInt8):Value := .string ⟨t.toArray⟩
def svs (l:List (List UInt8)):List Value:=l.map sv
theorem svs_length (l:List (List UInt8)):(svs l).length=l.length:=by simp [svs]
theorem svs_append (l m:List (List UInt8)):svs (l++m)=svs l++svs m:=by simp [svs]
def Ct.cs (c:Ct):List Value := [.int .i64 (c.kd:Int), .int .i64 (c.ag:Int), .int .i64 (c.nu:Int), .int .i64 (c.pl:Int), .int .i64 (c.sz:Int),sv c.tx]
def Ct.val (c:Ct):Value := .agg c.cs.toArray
structure CtAt (w:World) (b off:Nat) (c:Ct):Prop where
 c0:w.cell? ⟨b,off,none⟩=some (.int .i64 (c.kd:Int))
 c1:w.cell? ⟨b,off+1,none⟩=some (.int .i64 (c.ag:Int))
 c2:w.cell? ⟨b,off+2,none⟩=some (.int .i64 (c.nu:Int))
 c3:w.cell? ⟨b,off+3,none⟩=some (.int .i64 (c.pl:Int))
 c4:w.cell? ⟨b,off+4,none⟩=some (.int .i64 (c.sz:Int))
 c5:w.cell? ⟨b,off+5,none⟩=some (sv c.tx)
theorem CtAt.keep {w w':World} {b off:Nat} {c:Ct} (h:CtAt w b off c) (hk:w'.heap[b]? = w.heap[b]?):CtAt w' b off c :=
 ⟨(World.cell?_of_block (a:=⟨b,off,none⟩) hk).trans h.c0,(World.cell?_of_block (a:=⟨b,off+1,none⟩) hk).trans h.c1,(World.cell?_of_block (a:=⟨b,off+2,none⟩) hk).trans h.c2,
  (World.cell?_of_block (a:=⟨b,off+3,none⟩) hk).trans h.c3,(World.cell?_of_block (a:=⟨b,off+4,none⟩) hk).trans h.c4,(World.cell?_of_block (a:=⟨b,off+5,none⟩) hk).trans h.c5⟩
structure RowCt (w:World) (b off n:Nat) (C:Nat→Ct):Prop where
 lt:b < w.heap.size
 get : ∀ j,j < n→CtAt w b (off+j*6) (C j)
theorem RowCt.keep {w w':World} {b off n:Nat} {C:Nat→Ct} (h:RowCt w b off n C) (hs:w.heap.size≤w'.heap.size) (hk:w'.heap[b]? = w.heap[b]?):RowCt w' b off n C :=
 ⟨Nat.lt_of_lt_of_le h.lt hs,fun j hj=>(h.get j hj).keep hk⟩
theorem RowCt.below {w w':World} {b off n:Nat} {C:Nat→Ct} (h:RowCt w b off n C) (hb:Below w.heap.size w w'):RowCt w' b off n C:=h.keep hb.size (hb.block b h.lt)
theorem RowCt.grown {w w':World} {b off n r:Nat} {C:Nat→Ct} (h:RowCt w b off n C) (hg:w.grownBy w' (some r)) (hne:b≠r):RowCt w' b off n C:=h.keep hg.size (hg.block b h.lt (by simpa using hne))
theorem RowCt.drew {w:World} {b off n:Nat} {C:Nat→Ct} (h:RowCt w b off n C):RowCt w.drew b off n C:=h.below (Below.refl _ _).drew
theorem RowCt.tail {w:World} {b off n:Nat} {C:Nat→Ct} (h:RowCt w b off (n+1) C):RowCt w b (off+6) n (fun j=>C (j+1)) :=
 ⟨h.lt,fun j hj=>by
  have:=h.get (j+1) (by omega)
  rw [show off+(j+1)*6=off+6+j*6 by omega] at this
  exact this⟩
def CtBlk (w:World) (g n:Nat) (C:Nat→Ct):Prop := ∃ l,Whole w g 152 l∧l.length=n*6 ∧ ∀ j,j < n → ∀ i v,(C j).cs[i]? = some v→l[j*6+i]? = some v
section
variable {w w':World} {g n:Nat} {C:Nat→Ct}
theorem CtBlk.lt (h:CtBlk w g n C):g < w.heap.size:=by
 obtain ⟨l,hl,_⟩:=h
 exact hl.lt
theorem CtBlk.keep (h:CtBlk w g n C) (hk:w'.heap[g]? = w.heap[g]?):CtBlk w' g n C:=by
 obtain ⟨l,hl,h1,h2⟩:=h
 exact ⟨l,hl.keep hk,h1,h2⟩
theorem CtBlk.below (h:CtBlk w g n C) (hb:Below w.heap.size w w'):CtBlk w' g n C:=h.keep (hb.block g h.lt)
theorem CtBlk.row (h:CtBlk w g n C):RowCt w g 0 n C:=by
 obtain ⟨l,hl,h1,h2⟩:=h
 refine ⟨hl.lt,fun j hj => ?_⟩
 have e : ∀ i v,(C j).cs[i]? = some v→w.cell? ⟨g,0+j*6+i,none⟩=some v:=fun i v hv=>by
  rw [hl.cell,Nat.zero_add]
  exact h2 j hj i v hv
 exact ⟨e 0 _ rfl,e 1 _ rfl,e 2 _ rfl,e 3 _ rfl,e 4 _ rfl,e 5 _ rfl⟩
theorem CtBlk.cell (h:CtBlk w g n C) {j:Nat} (hj:j < n) {i:Nat} (hi:i < 6) : ∃ v,w.cell? ⟨g,j*6+i,none⟩=some v:=by
 obtain ⟨l,hl,h1,h2⟩:=h
 exact ⟨l[j*6+i]'(by omega),by rw [hl.cell,List.getElem?_eq_getElem]⟩
theorem CtBlk.free (h:CtBlk w g n C) (j:Nat):w.frozen? ⟨g,j,none⟩=false:=by
 obtain ⟨l,hl,_⟩:=h
 exact hl.free j
theorem CtBlk.set (h:CtBlk w g n C) {j:Nat} (hj:j < n) (c:Ct) :
  CtBlk ((((((w.setCell ⟨g,j*6,none⟩ (.int .i64 (c.kd:Int))).setCell ⟨g,j*6+1,none⟩ (.int .i64 (c.ag:Int))).setCell ⟨g,j*6+2,none⟩ (.int .i64 (c.nu:Int))).setCell ⟨g,j*6+3,none⟩ (.int .i64 (c.pl:Int))).setCell ⟨g,j*6+4,none⟩ (.int .i64 (c.sz:Int))).setCell ⟨g,j*6+5,none⟩ (sv c.tx)) g n (fun i=>if i=j then c else C i):=by
 obtain ⟨l,hl,h1,h2⟩:=h
 refine ⟨_,(((((hl.set (j*6) _).set (j*6+1) _).set (j*6+2) _).set (j*6+3) _).set (j*6+4) _).set (j*6+5) _,by simpa using h1,fun k hk i v hv => ?_⟩
 have hi:i < 6:=(List.getElem?_eq_some_iff.1 hv).1
 by_cases e:k=j
 ·subst e
  simp only [if_pos] at hv
  simp only [List.getElem?_set,List.length_set]
  rcases (by omega:i=0∨i=1∨i=2∨i=3∨i=4∨i=5) with rfl | rfl | rfl | rfl | rfl | rfl <;> simp [Ct.cs] at hv <;> subst hv <;> simp <;> omega
 ·dsimp only at hv
  rw [if_neg e] at hv
  have:=h2 k hk i v hv
  simp only [List.getElem?_set,List.length_set]
  rw [if_neg (by omega),if_neg (by omega),if_neg (by omega),if_neg (by omega),if_neg (by omega),if_neg (by omega)]
  exact this
end
theorem grown_sets6 {wr:World} {b o:Nat} (v0 v1 v2 v3 v4 v5:Value) :
  wr.grownBy ((((((wr.setCell ⟨b,o,none⟩ v0).setCell ⟨b,o+1,none⟩ v1).setCell ⟨b,o+2,none⟩ v2).setCell ⟨b,o+3,none⟩ v3).setCell ⟨b,o+4,none⟩ v4).setCell ⟨b,o+5,none⟩ v5) (some b) :=
 grown_trans (grown_trans (grown_trans (grown_trans (grown_trans (grown_set _ b o v0) (grown_set _ b (o+1) v1)) (grown_set _ b (o+2) v2)) (grown_set _ b (o+3) v3)) (grown_set _ b (o+4) v4)) (grown_set _ b (o+5) v5)
def lgc (p fr se ag fi st:Nat) (z:Value):List Value := [.pointer (some ⟨p,0,none⟩), .int .i64 (fr:Int), .int .i64 (se:Int), .int .i64 (ag:Int), .int .i64 (fi:Int), .int .i64 (st:Int),z]
def LAt (w:World) (g p fr se ag fi st:Nat) (z:Value):Prop:=Whole w g 120 (lgc p fr se ag fi st z)
section
variable {w w':World} {g p fr se ag fi st:Nat} {z:Value}
theorem LAt.lt (h:LAt w g p fr se ag fi st z):g < w.heap.size:=Whole.lt h
theorem LAt.c0 (h:LAt w g p fr se ag fi st z):w.cell? ⟨g,0,none⟩=some (.pointer (some ⟨p,0,none⟩)):=by rw [Whole.cell h 0];rfl
theorem LAt.c1 (h:LAt w g p fr se ag fi st z):w.cell? ⟨g,1,none⟩=some (.int .i64 (fr:Int)):=by rw [Whole.cell h 1];rfl
theorem LAt.c2 (h:LAt w g p fr se ag fi st z):w.cell? ⟨g,2,none⟩=some (.int .i64 (se:Int)):=by rw [Whole.cell h 2];rfl
theorem LAt.c3 (h:LAt w g p fr se ag fi st z):w.cell? ⟨g,3,none⟩=some (.int .i64 (ag:Int)):=by rw [Whole.cell h 3];rfl
theorem LAt.c4 (h:LAt w g p fr se ag fi st z):w.cell? ⟨g,4,none⟩=some (.int .i64 (fi:Int)):=by rw [Whole.cell h 4];rfl
theorem LAt.c5 (h:LAt w g p fr se ag fi st z):w.cell? ⟨g,5,none⟩=some (.int .i64 (st:Int)):=by rw [Whole.cell h 5];rfl
theorem LAt.c6 (h:LAt w g p fr se ag fi st z):w.cell? ⟨g,6,none⟩=some z:=by rw [Whole.cell h 6];rfl
theorem LAt.free (h:LAt w g p fr se ag fi st z) (j:Nat):w.frozen? ⟨g,j,none⟩=false:=Whole.free h j
theorem LAt.keep (h:LAt w g p fr se ag fi st z) (hk:w'.heap[g]? = w.heap[g]?):LAt w' g p fr se ag fi st z:=Whole.keep h hk
theorem LAt.below (h:LAt w g p fr se ag fi st z) (hb:Below w.heap.size w w'):LAt w' g p fr se ag fi st z:=Whole.below h hb
theorem LAt.alloc (h:LAt w g p fr se ag fi st z) (o:Obj):LAt (w.alloc o) g p fr se ag fi st z:=Whole.alloc h o
theorem LAt.drew (h:LAt w g p fr se ag fi st z):LAt w.drew g p fr se ag fi st z:=h
theorem LAt.set3 (h:LAt w g p fr se ag fi st z) (m:Nat):LAt (w.setCell ⟨g,3,none⟩ (.int .i64 (m:Int))) g p fr se m fi st z:=Whole.set h 3 _
theorem LAt.set4 (h:LAt w g p fr se ag fi st z) (m:Nat):LAt (w.setCell ⟨g,4,none⟩ (.int .i64 (m:Int))) g p fr se ag m st z:=Whole.set h 4 _
theorem LAt.set5 (h:LAt w g p fr se ag fi st z) (m:Nat):LAt (w.setCell ⟨g,5,none⟩ (.int .i64 (m:Int))) g p fr se ag fi m z:=Whole.set h 5 _
theorem LAt.set6 (h:LAt w g p fr se ag fi st z) (y:Value):LAt (w.setCell ⟨g,6,none⟩ y) g p fr se ag fi st y:=Whole.set h 6 _
end
theorem slice_own {U:TypeId} {w:World} {base:Nat} {v:Value} {l:List Value} (h:OwnV U w base v l) {n:Nat} (hn:l.length=n) : ∃ A c,v = .slice A n c:=by
 obtain ⟨A,c,hv,_⟩:=h.shape hn
 exact ⟨A,c,hv⟩
theorem run_app_cell {P:Program} {w:World} (base:Nat) (t ty U:TypeId) (ht:P.underlying t=some (.slice U)) {z:Value} {m:Nat} (hinfo:(P.info? U).map (fun i=>(i.zero,i.size,i.bytes))=some (some z,1,m)) (hz:z.cells.size=1) (_hm0:0 < m) (hm:m≤16)
  (v:Value) (l:List Value) (hown:OwnV U w base v l) (u:Value) (hu:u.oneCell'=true) (hle:l.length+1≤1000000) (hbase:base≤w.heap.size) :
  ∃ v' w',(Builtin.append_ #[t,t] ty #[v, .slice (some ⟨w.heap.size,0,none⟩) 1 1]).run P (w.alloc (.cells #[u] U)) = .ok v' w'∧OwnV U w' base v' (l ++ [u])∧w.grownBy w' v.ownBlock∧(v'.ownBlock=v.ownBlock ∨ ∃ k,v'.ownBlock=some k∧w.heap.size≤k):=by
 obtain ⟨i0,hi,hz0,hz1,hz2⟩:=info_parts hinfo
 have hb1:Below w.heap.size w (w.alloc (.cells #[u] U)):=(Below.refl _ _).alloc (Nat.le_refl _) _
 have ho:OwnV U (w.alloc (.cells #[u] U)) base v l:=hown.below hb1
 have hW:=Whole.new w #[u] U
 have hmm:(l.length+1)*m≤1000000*16:=Nat.mul_le_mul hle hm
 obtain ⟨v',w',hrun,k1,k2,_,k4⟩:=run_append_own_at (P:=P) _ base t ty U i0 z 1 m ht hi hz0 hz1 hz2 hz (by omega) v l.length l ho ⟨w.heap.size,0,none⟩ 1 1 [u] rfl
  (fun j x hj=>by rw [add_plain,Nat.zero_add,hW.cell];exact hj) (by simpa using hu) (by simp only [maxLen];omega) (by omega) (Nat.le_trans hbase hb1.size)
 refine ⟨v',w',hrun,?_,grown_trans (grown_below hb1 _) k2,?_⟩
 ·unfold OwnV
  rw [List.length_append]
  exact k1
 ·rcases k4 with k4 | k4
  ·exact .inl k4
  ·exact .inr ⟨_,k4,hb1.size⟩
theorem own_apart {U U':TypeId} {w:World} {base base':Nat} {v v':Value} {l l':List Value} (h:OwnV U w base v l) (h':OwnV U' w base' v' l') (hne:U≠U') {k:Nat} (hk:v.ownBlock=some k):v'.ownBlock≠some k:=by
 rcases h'.2 with ⟨rfl,_⟩ | ⟨g',cap',cur',rfl,_,hh',_⟩
 ·simp [Value.ownBlock]
 ·rcases h.2 with ⟨rfl,_⟩ | ⟨g,cap,cur,rfl,_,hh,_⟩
  ·simp [Value.ownBlock] at hk
  ·intro he
   have e1:g=k:=by simpa [Value.ownBlock] using hk
   have e2:g'=k:=by simpa [Value.ownBlock] using he
   subst e1
   subst e2
   rw [hh] at hh'
   injection hh' with hh'
   injection hh' with _ ht
   exact hne ht
theorem grown_own {a w w':World} {g:Nat} {r:Option Nat} (h:a.grownBy w (some g)) (hg:w.grownBy w' r) (hr : ∀ k,r=some k→a.heap.size≤k∨k=g):a.grownBy w' (some g) :=
 ⟨hg.os.trans h.os,hg.tape.trans h.tape,hg.output.trans h.output,Nat.le_trans h.size hg.size,fun i hi hne =>
  (hg.block i (Nat.lt_of_lt_of_le hi h.size) (fun e=>by
   rcases hr i e.symm with q | q
   ·omega
   ·exact hne (by rw [q]))).trans (h.block i hi hne)⟩
end Go.Proofs.YtcodpnbemdflcaaGreatDoor
namespace Go.Proofs.YtcodpnbemdflcaaGreatDoor
open Go.RowKit
set_option maxHeartbeats 400000 in
theorem insist_yes (w:World):Calls Tryz.prog 104 #[.bool true] w fun e w'=>e = .returned (.tuple #[])∧w'=w:=by
 go_enter Tryz.func104,Tryz.ntmps104
 go_wp2
 go_end0
 exact ⟨rfl,rfl⟩
set_option maxHeartbeats 400000 in
theorem done_yes (w:World):Calls Tryz.prog 108 #[.int .i64 0] w fun e w'=>e = .returned (.tuple #[])∧w'=w:=by
 go_enter Tryz.func108,Tryz.ntmps108
 go_wp2
 go_end0
 exact ⟨rfl,rfl⟩
set_option maxHeartbeats 400000 in
theorem need_yes (A:Option Addr) (n c:Nat) (w:World):Calls Tryz.prog 150 #[.slice A n c, .int .i64 0] w fun e w'=>e = .returned (.slice A n c)∧w'=w:=by
 go_enter Tryz.func150,Tryz.ntmps150
 go_wp2_with (go_at_call 108;refine (done_yes w).mono ?_;rintro e w1 ⟨rfl,rfl⟩)
 go_ret
 exact ⟨rfl,rfl⟩
set_option maxHeartbeats 400000 in
theorem right_bytes (A:Option Addr) (n c:Nat) (w:World):Calls Tryz.prog 193 #[.slice A n c, .int .i64 0] w fun e w'=>e = .returned (.slice A n c)∧w'=w:=by
 go_enter Tryz.func193,Tryz.ntmps193
 go_wp2_with (go_at_call 104;refine (insist_yes w).mono ?_;rintro e w1 ⟨rfl,rfl⟩)
 go_ret
 exact ⟨rfl,rfl⟩
set_option maxHeartbeats 400000 in
theorem right_num_yes (m:Int) (w:World):Calls Tryz.prog 196 #[.int .i64 m, .int .i64 0] w fun e w'=>e = .returned (.int .i64 m)∧w'=w:=by
 go_enter Tryz.func196,Tryz.ntmps196
 go_wp2_with (go_at_call 104;refine (insist_yes w).mono ?_;rintro e w1 ⟨rfl,rfl⟩)
 go_ret
 exact ⟨rfl,rfl⟩
set_option maxHeartbeats 400000 in
theorem right_text (s:ByteArray) (w:World):Calls Tryz.prog 198 #[.string s, .int .i64 0] w fun e w'=>e = .returned (.string s)∧w'=w:=by
 go_enter Tryz.func198,Tryz.ntmps198
 go_wp2_with (go_at_call 104;refine (insist_yes w).mono ?_;rintro e w1 ⟨rfl,rfl⟩)
 go_ret
 exact ⟨rfl,rfl⟩
set_option maxHeartbeats 400000 in
theorem pieces_any (n:Nat) (hn:n≤1000000000000) (w:World):Calls Tryz.prog 93 #[.int .i64 (n:Int)] w fun e w'=>e = .returned (.int .i64 ((np n:Nat):Int))∧w'=w:=by
 go_enter Tryz.func93,Tryz.ntmps93
 go_wp2
 all_goals (
  go_ret
  refine ⟨?_,rfl⟩
  refine congrArg (fun m=>Ending.returned (.int .i64 m)) ?_
  unfold np
  omega)
section
variable {w:World} {g p fr se ag fi st:Nat} {z:Value}
set_option maxHeartbeats 400000 in
theorem ring_any (h:LAt w g p fr se ag fi st z) (h1:1≤se) (h2:se≤1024):Calls Tryz.prog 94 #[.pointer (some ⟨g,0,none⟩)] w fun e w'=>e = .returned (.int .i64 ((se - 1:Nat):Int))∧w'=w:=by
 have c2:=h.c2
 clear h
 have e1:((se - 1:Nat):Int)=(se:Int) - 1:=by omega
 rw [e1]
 clear e1
 go_enter Tryz.func94,Tryz.ntmps94
 go_wp2
 go_ret
 exact ⟨rfl,rfl⟩
set_option maxHeartbeats 400000 in
theorem none_any (h:LAt w g p fr se ag fi st z):Calls Tryz.prog 57 #[.pointer (some ⟨g,0,none⟩)] w fun e w'=>e = .returned (.bool false)∧w'=w:=by
 have c0:=h.c0
 clear h
 go_enter Tryz.func57,Tryz.ntmps57
 go_wp2
 go_ret
 exact ⟨rfl,rfl⟩
set_option maxHeartbeats 400000 in
theorem lnext_any {A:Option Addr} {n c:Nat} (h:LAt w g p fr se ag fi st (.slice A n c)) (h1:fi+n≤1000000000000):Calls Tryz.prog 74 #[.pointer (some ⟨g,0,none⟩)] w fun e w'=>e = .returned (.int .i64 ((fi+n:Nat):Int))∧Below w.heap.size w w':=by
 have c4:=h.c4
 have c6:=h.c6
 have k:=none_any h
 clear h
 rw [Int.natCast_add]
 go_enter Tryz.func74,Tryz.ntmps74
 go_wp2_with (go_at_call 57;refine k.mono ?_;rintro e w1 ⟨rfl,rfl⟩)
 go_region
 all_goals (
  go_wp2
  go_ret
  exact ⟨rfl,(Below.refl _ _).drew⟩)
set_option maxHeartbeats 400000 in
theorem place_log (h:LAt w g p fr se ag fi st z) (h1:2≤se) (h2:se≤1024) (h3:fr≤4096) (h4:st≤1024) (k:Nat) (hk:k≤4096) :
  Calls Tryz.prog 97 #[.pointer (some ⟨g,0,none⟩), .int .i64 (k:Int)] w fun e w'=>e = .returned (.int .i64 ((fr+1+(st+k) % (se - 1):Nat):Int))∧Below w.heap.size w w':=by
 have c1:=h.c1
 have c5:=h.c5
 have kr:=fun nq=>ring_any (w:=w.drewN nq) (g:=g) (p:=p) (fr:=fr) (se:=se) (ag:=ag) (fi:=fi) (st:=st) (z:=z) h (by omega) h2
 have e1:((fr+1+(st+k) % (se - 1):Nat):Int)=(fr:Int)+1+((st:Int)+(k:Int)) % ((se - 1:Nat):Int):=by
  rw [Int.natCast_add,Int.natCast_emod,Int.natCast_add,Int.natCast_add]
  rfl
 rw [e1]
 obtain ⟨m,hm⟩ : ∃ m,m=se - 1:=⟨_,rfl⟩
 rw [← hm] at kr ⊢
 have hm1:1≤m:=by omega
 have hm2:m≤1024:=by omega
 have hlt:((st:Int)+(k:Int)) % (m:Int) < (m:Int):=Int.emod_lt_of_pos _ (by omega)
 have hge:0≤((st:Int)+(k:Int)) % (m:Int):=Int.emod_nonneg _ (by omega)
 have ht:Int.tmod ((st:Int)+(k:Int)) (m:Int)=((st:Int)+(k:Int)) % (m:Int):=Int.tmod_eq_emod_of_nonneg (by omega)
 have hw:IntKind.i64.wrap ((fr:Int)+1+((st:Int)+(k:Int)) % (m:Int))=(fr:Int)+1+((st:Int)+(k:Int)) % (m:Int):=IntWalk.i64_in _ (by omega)
 clear h e1 hm
 go_enter Tryz.func97,Tryz.ntmps97
 go_wp2
 go_quiet ((go_at_call 94;exact Calls.quiet_of_same (kr _)))
 go_wp2
 go_ret
 exact ⟨rfl,below_drewN (Below.refl _ _) _⟩
theorem used_any {A:Option Addr} {n c:Nat} {l:List Nat} (h:LAt w g p fr se ag fi st (.slice A n c)) (hl:RdV w A n (nts l)) (hn:n≤2000) (hs : ∀ x ∈ l,x≤100) :
  Calls Tryz.prog 92 #[.pointer (some ⟨g,0,none⟩)] w fun e w'=>e = .returned (.int .i64 ((l.sum:Nat):Int))∧w'=w:=by
 have c6:=h.c6
 have hlen:l.length=n:=by rw [← nts_length];exact hl.len
 have hsum : ∀ k,(l.take k).sum≤100*k:=fun k=>by
  induction k with
  | zero=>simp
  | succ k ih =>
   rw [List.take_add_one,List.sum_append]
   cases hx:l[k]? with
   | none=>simp;omega
   | some x =>
    have:=hs x (List.mem_of_getElem? hx)
    simp
    omega
 have HS:=Lib.hid hsum
 have HL:=Lib.hid hl
 have Hlen:=Lib.hid hlen
 have HS2:=Lib.hid hs
 clear h hsum hl hlen hs
 go_enter Tryz.func92,Tryz.ntmps92
 go_wp2
 go_loop [3,11] (fun s i => ∃ k:Nat,k≤n∧i = .int .i64 (k:Int)∧s = .int .i64 (((l.take k).sum:Nat):Int)) (fun _ i=>n - (Go.RowKit.intOf i).toNat)
 case atStart=>exact ⟨0,Nat.zero_le _,rfl,rfl⟩
 case round =>
  obtain ⟨k,hk,rfl,rfl⟩:=hrel
  have h1:=HS.out k
  by_cases hlt:k < n
  ·obtain ⟨b,off,x,rfl,hb,hx,hcell⟩:=HL.out.cell hlt
   obtain ⟨y,hy,rfl⟩:=nts_get hx
   have hy1:=HS2.out y (List.mem_of_getElem? hy)
   have e1:(l.take (k+1)).sum=(l.take k).sum+y:=by rw [List.take_add_one,hy,List.sum_append];simp
   have E1:=Lib.hid e1
   have HX:=Lib.hid hx
   have HY:=Lib.hid hy
   clear e1 hx hy
   generalize (l.take k).sum=s at h1 E1
   go_wp2
   refine ⟨⟨k+1,hlt,by go_num,?_⟩,by simp [Go.RowKit.intOf];omega⟩
   rw [E1.out,Int.natCast_add]
  ·obtain rfl:k=n:=by omega
   have e1:l.take k=l:=List.take_of_length_le (by rw [Hlen.out];exact Nat.le_refl _)
   rw [e1]
   clear e1 h1
   go_wp2
   go_ret
   exact ⟨rfl,rfl⟩
end
end Go.Proofs.YtcodpnbemdflcaaGreatDoor

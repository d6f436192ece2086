/-
  The document's rows of operations on a heap: what each makes; the law's walk through them.
  Words for the laws of a heap; the law HeapWords, walked.
-/
import Derived.Test.YtcodpnbemdflcaaGreatDoorTg25
import Derived.Test.YtcodpnbemdflcaaGreatDoorTg20
import Derived.Test.YtcodpnbemdflcaaGreatDoorTg16
import Derived.Lib.MinMax
import Derived.Test.YtcodpnbemdflcaaGreatDoorTg21
namespace Go.Proofs.YtcodpnbemdflcaaGreatDoor
open Go.RowKit
def ob1:Ob:=⟨1,(0,2), [0,0], [0]⟩
def ob1w:Ob:=⟨1,(0,2), [0,7], [0]⟩
def ob1l:Ob:=⟨1,(0,2), [0,7], [2]⟩
def ob2:Ob:=⟨2,(4,2), [0,0,0], []⟩
def ob3:Ob:=⟨3,(4,2), [0,0,0], []⟩
def st:Nat→Hp
 | 0=>newH 3
 | 1=>⟨3, [ob1],2, [0,0,0,0], [(4,2)]⟩
 | 2=>⟨3, [ob1,ob2],3, [0,0,0,0], []⟩
 | 3=>⟨3, [ob1,ob2],3, [0,0,0,0], []⟩
 | 4=>⟨3, [ob1w,ob2],3, [0,0,0,0], []⟩
 | 5=>⟨3, [ob1w,ob2],3, [0,0,0,0], []⟩
 | 6=>⟨3, [ob1w,ob2],3, [0,0,0,0], []⟩
 | 7=>⟨3, [ob1w,ob2],3, [0,0,0,0], []⟩
 | 8=>⟨3, [ob1l,ob2],3, [0,0,0,0], []⟩
 | 9=>⟨3, [ob1l,ob2],3, [2,0,0,0], []⟩
 | 10=>⟨3, [ob1w],3, [0,0,0,0], [(4,2)]⟩
 | 11=>⟨3, [ob1w],3, [0,0,0,0], [(4,2)]⟩
 | 12=>⟨3, [ob1w],3, [0,0,0,0], [(4,2)]⟩
 | 13=>⟨3, [ob1w],3, [0,0,0,0], [(4,2)]⟩
 | _=>⟨3, [ob1w,ob3],4, [0,0,0,0], []⟩
theorem alloc_gives {h:Hp} {n kk N:Int} {b:Blk} {m:List Blk} (hN:needI n kk=N) (h0:0≤N) (hx:h.nx≤1000000) (hr:roomB h.fr N=true) (ht:Took h.fr N b m):allocH h n kk=({ h with obs:=h.obs ++ [⟨h.nx,b,List.replicate n.toNat 0,List.replicate kk.toNat 0⟩],nx:=h.nx+1,fr:=m },0,h.nx):=by
 unfold allocH
 rw [hN,if_neg (by omega),if_neg (by omega),hr,if_neg (by simp),takeF_eq ht]
theorem OwnHp.other {w w':World} {base p:Nat} {s:HSl} {os:List (Ob × OSl)} {H:Hp} {cs:List Value} (h:OwnHp w base s os H) (K:Whole w p 28 cs) (hg:w.grownBy w' (some p)):OwnHp w' base s os H:=by
 have hI : ∀ k ∈ blocksOf os,some k≠some p:=fun k hk e=>by
  injection e with e
  subst e
  obtain ⟨q,hq,e2⟩:=mem_blocks.1 hk
  have : ∃ c2,w.heap[k]? = some (.cells c2 3 (0,0)):=by
   rcases e2 with e2 | e2
   ·exact row_type (h.objs.ints q hq).1 e2
   ·exact row_type (h.objs.ints q hq).2 e2
  obtain ⟨c2,h2⟩:=this
  exact absurd (heap_types K h2) (by decide)
 exact ⟨h.objs.grown hg (fun k hk e=>by
   injection e with e
   subst e
   obtain ⟨c1,h1⟩:=row_type h.objs.row hk
   exact absurd (heap_types K h1) (by decide)) hI,h.obs,h.free.grown hg (fun k hk e=>by
   injection e with e
   subst e
   obtain ⟨c1,h1⟩:=row_type h.free hk
   exact absurd (heap_types K h1) (by decide)),h.tp,h.nx⟩
theorem run_neq_res (x o y p:Int) (W:World):(binOp .neq 40 (.agg #[.int .i64 x, .int .i64 o]) (.agg #[.int .i64 y, .int .i64 p])).run Tryz.prog W = .ok (.bool (!sameB (x,o) (y,p))) W:=by
 have u3:=Tryz.underlying3
 have a3:=Tryz.isAgg3
 have z3:=Tryz.sizeOf3
 have u4:=Tryz.underlying29
 have a4:=Tryz.isAgg29
 have z4:=Tryz.sizeOf29
 have hS:Tryz.prog.underlying 40=some (.struct (Tryz.prog.fieldsOf 40)):=by kernel_rfl
 have hp:Tryz.prog.stoodInHeld 40=false:=by kernel_rfl
 rw [run_neq_struct,show (10000:Nat)=9999+1 from rfl,run_equalIn_agg W 9999 40 _ _ hS hp]
 simp only [Program.fieldsOf,Tryz.underlying40]
 unfold sameB
 go_simp
 by_cases h1:x=y <;> by_cases h2:o=p <;> simp [h1,h2]
def BxRel (w0:Nat) (wr:World) (H':Hp) (rc rv:Int) (v6 v7:Value) (wc:World):Prop :=
 ∃ s' os' p6 p7,v6 = .pointer (some ⟨p6,0,none⟩)∧v7 = .pointer (some ⟨p7,0,none⟩)∧OwnHp wc w0 s' os' H'∧Whole wc p6 28 (hcs H' s')∧Whole wc p7 40 [.int .i64 rc, .int .i64 rv]∧Below wr.heap.size wr wc
section
variable {w0:Nat} {wr V W5:World} {s':HSl} {os':List (Ob × OSl)} {H':Hp} {rc rv:Int}
theorem bx_a1 (h0:w0≤wr.heap.size) (hV:Below wr.heap.size wr V) (O:OwnHp W5 V.heap.size s' os' H') (b:Below V.heap.size V W5) :
  BxRel w0 wr H' rc rv (.pointer (some ⟨W5.heap.size,0,none⟩)) (.pointer (some ⟨W5.heap.size+1,0,none⟩)) ((W5.alloc (.cells (hcs H' s').toArray 28)).alloc (.cells #[.int .i64 rc, .int .i64 rv] 40)):=by
 have bV:=hV.trans (b.mono hV.size)
 have k1:=Whole.new W5 (hcs H' s').toArray 28
 have k2:=Whole.new (W5.alloc (.cells (hcs H' s').toArray 28)) #[.int .i64 rc, .int .i64 rv] 40
 rw [show (W5.alloc (.cells (hcs H' s').toArray 28)).heap.size=W5.heap.size+1 by simp] at k2
 have bb:=((Grew.refl W5).alloc (.cells (hcs H' s').toArray 28)).alloc (.cells #[.int .i64 rc, .int .i64 rv] 40)
 exact ⟨s',os',_,_,rfl,rfl,(O.below bb.below).mono (Nat.le_trans h0 hV.size),k1.alloc _,k2,bV.trans (bb.below.mono bV.size)⟩
theorem bx_a2 (h0:w0≤wr.heap.size) (hV:Below wr.heap.size wr V) (O:OwnHp W5 V.heap.size s' os' H') (b:Below V.heap.size V W5) :
  BxRel w0 wr H' rc rv (.pointer (some ⟨W5.heap.size+1,0,none⟩)) (.pointer (some ⟨W5.heap.size,0,none⟩)) ((W5.alloc (.cells #[.int .i64 rc, .int .i64 rv] 40)).alloc (.cells (hcs H' s').toArray 28)):=by
 have bV:=hV.trans (b.mono hV.size)
 have k1:=Whole.new W5 #[.int .i64 rc, .int .i64 rv] 40
 have k2:=Whole.new (W5.alloc (.cells #[.int .i64 rc, .int .i64 rv] 40)) (hcs H' s').toArray 28
 rw [show (W5.alloc (.cells #[.int .i64 rc, .int .i64 rv] 40)).heap.size=W5.heap.size+1 by simp] at k2
 have bb:=((Grew.refl W5).alloc (.cells #[.int .i64 rc, .int .i64 rv] 40)).alloc (.cells (hcs H' s').toArray 28)
 exact ⟨s',os',_,_,rfl,rfl,(O.below bb.below).mono (Nat.le_trans h0 hV.size),k2,k1.alloc _,bV.trans (bb.below.mono bV.size)⟩
def set8 (w:World) (g:Nat) (H:Hp) (s:HSl):World:=((((((((w.setCell ⟨g,0,none⟩ (.int .i64 H.od)).setCell ⟨g,1,none⟩ (.slice s.A s.n s.c)).setCell ⟨g,2,none⟩ (.int .i64 H.nx)).setCell ⟨g,3,none⟩ (.int .i64 (tget H 0))).setCell ⟨g,4,none⟩ (.int .i64 (tget H 1))).setCell ⟨g,5,none⟩ (.int .i64 (tget H 2))).setCell ⟨g,6,none⟩ (.int .i64 (tget H 3))).setCell ⟨g,7,none⟩ (.slice s.F s.m s.d))
def set2 (w:World) (g:Nat) (rc rv:Int):World:=(w.setCell ⟨g,0,none⟩ (.int .i64 rc)).setCell ⟨g,1,none⟩ (.int .i64 rv)
theorem set8_is {w:World} {g:Nat} {H:Hp} {s:HSl} (K:Whole w g 28 zcs):Whole (set8 w g H s) g 28 (hcs H s)∧w.grownBy (set8 w g H s) (some g) :=
 ⟨(((((((K.set 0 _).set 1 _).set 2 _).set 3 _).set 4 _).set 5 _).set 6 _).set 7 _,grown_set8 w g _ _ _ _ _ _ _ _⟩
theorem set2_is {w:World} {g:Nat} {rc rv:Int} (K:Whole w g 40 rcs):Whole (set2 w g rc rv) g 40 [.int .i64 rc, .int .i64 rv]∧w.grownBy (set2 w g rc rv) (some g) :=
 ⟨(K.set 0 _).set 1 _,grown_trans (grown_set _ _ _ _) (grown_set _ _ _ _)⟩
theorem bx_b {p6:Nat} (h0:w0≤wr.heap.size) (hV:Below wr.heap.size wr V) (O:OwnHp W5 V.heap.size s' os' H') (b:Below V.heap.size V W5) (K6:Whole V p6 28 zcs) (h6:wr.heap.size≤p6) :
  BxRel w0 wr H' rc rv (.pointer (some ⟨p6,0,none⟩)) (.pointer (some ⟨W5.heap.size,0,none⟩)) ((set8 W5 p6 H' s').alloc (.cells #[.int .i64 rc, .int .i64 rv] 40)):=by
 have bV:=hV.trans (b.mono hV.size)
 obtain ⟨k1,g1⟩:=set8_is (H:=H') (s:=s') (K6.below b)
 have hz:(set8 W5 p6 H' s').heap.size=W5.heap.size:=by simp [set8]
 have k2:=Whole.new (set8 W5 p6 H' s') #[.int .i64 rc, .int .i64 rv] 40
 rw [hz] at k2
 have b1:=below_grown bV g1 bV.size h6
 have bb:=((Grew.refl (set8 W5 p6 H' s')).alloc (.cells #[.int .i64 rc, .int .i64 rv] 40)).below
 exact ⟨s',os',_,_,rfl,rfl,((O.grown g1 K6.lt).below bb).mono (Nat.le_trans h0 hV.size),k1.alloc _,k2,b1.trans (bb.mono b1.size)⟩
theorem bx_c {p7:Nat} (h0:w0≤wr.heap.size) (hV:Below wr.heap.size wr V) (O:OwnHp W5 V.heap.size s' os' H') (b:Below V.heap.size V W5) (K7:Whole V p7 40 rcs) (h7:wr.heap.size≤p7) :
  BxRel w0 wr H' rc rv (.pointer (some ⟨W5.heap.size,0,none⟩)) (.pointer (some ⟨p7,0,none⟩)) ((set2 W5 p7 rc rv).alloc (.cells (hcs H' s').toArray 28)):=by
 have bV:=hV.trans (b.mono hV.size)
 obtain ⟨k1,g1⟩:=set2_is (rc:=rc) (rv:=rv) (K7.below b)
 have hz:(set2 W5 p7 rc rv).heap.size=W5.heap.size:=by simp [set2]
 have k2:=Whole.new (set2 W5 p7 rc rv) (hcs H' s').toArray 28
 rw [hz] at k2
 have b1:=below_grown bV g1 bV.size h7
 have bb:=((Grew.refl (set2 W5 p7 rc rv)).alloc (.cells (hcs H' s').toArray 28)).below
 exact ⟨s',os',_,_,rfl,rfl,((O.grown g1 K7.lt).below bb).mono (Nat.le_trans h0 hV.size),k2,k1.alloc _,b1.trans (bb.mono b1.size)⟩
theorem bx_d {p6 p7:Nat} (h0:w0≤wr.heap.size) (hV:Below wr.heap.size wr V) (O:OwnHp W5 V.heap.size s' os' H') (b:Below V.heap.size V W5) (K6:Whole V p6 28 zcs) (h6:wr.heap.size≤p6) (K7:Whole V p7 40 rcs) (h7:wr.heap.size≤p7) (hne:p6≠p7) :
  BxRel w0 wr H' rc rv (.pointer (some ⟨p6,0,none⟩)) (.pointer (some ⟨p7,0,none⟩)) (set2 (set8 W5 p6 H' s') p7 rc rv):=by
 have bV:=hV.trans (b.mono hV.size)
 obtain ⟨k1,g1⟩:=set8_is (H:=H') (s:=s') (K6.below b)
 obtain ⟨k2,g2⟩:=set2_is (rc:=rc) (rv:=rv) ((K7.below b).grown g1 (fun e=>hne e.symm))
 have b1:=below_grown bV g1 bV.size h6
 have b2:=below_grown b1 g2 b1.size h7
 exact ⟨s',os',_,_,rfl,rfl,((O.grown g1 K6.lt).grown g2 K7.lt).mono (Nat.le_trans h0 hV.size),k1.grown g2 hne,k2,b2⟩
end
theorem set8_any {w:World} {g:Nat} {H:Hp} {s:HSl} {a0 a1 a2 a3 a4 a5 a6 a7:Value} (K:Whole w g 28 [a0,a1,a2,a3,a4,a5,a6,a7]):Whole (set8 w g H s) g 28 (hcs H s)∧w.grownBy (set8 w g H s) (some g) :=
 ⟨(((((((K.set 0 _).set 1 _).set 2 _).set 3 _).set 4 _).set 5 _).set 6 _).set 7 _,grown_set8 w g _ _ _ _ _ _ _ _⟩
theorem Whole.two' {w:World} {g:Nat} {t:TypeId} {a0 a1:Value} (h:Whole w g t [a0,a1]):w.cell? ⟨g,0,none⟩=some a0∧w.cell? ⟨g,1,none⟩=some a1:=⟨h.cell 0,h.cell 1⟩
end Go.Proofs.YtcodpnbemdflcaaGreatDoor
namespace Go.Proofs.YtcodpnbemdflcaaGreatDoor
open Go.RowKit
theorem right_small {H:Hp} (k:RightH H):SmallH H:=by
 refine ⟨by have:=k.len;omega,by have:=k.fr.len256;omega,fun x hx => ?_⟩
 have h1:=(k.ok x hx).2.2
 have h2:=needI_in (w:=x.ws.length) (l:=x.ls.length) (by rw [h1.1];exact h1.2.1.1)
 omega
theorem box_two (w:World) (a0 a1 a2 a3 a4 a5 a6 a7 b0 b1:Value) :
  ∃ p W,(w.alloc (.cells #[a0,a1,a2,a3,a4,a5,a6,a7] 28)).alloc (.cells #[b0,b1] 40)=W∧p=w.heap.size∧Whole W p 28 [a0,a1,a2,a3,a4,a5,a6,a7]∧Whole W (p+1) 40 [b0,b1]∧Below w.heap.size w W:=by
 have k1:=(Whole.new w #[a0,a1,a2,a3,a4,a5,a6,a7] 28).alloc (.cells #[b0,b1] 40)
 have k2:=Whole.new (w.alloc (.cells #[a0,a1,a2,a3,a4,a5,a6,a7] 28)) #[b0,b1] 40
 rw [show (w.alloc (.cells #[a0,a1,a2,a3,a4,a5,a6,a7] 28)).heap.size=w.heap.size+1 by simp] at k2
 exact ⟨_,_,rfl,rfl,k1,k2,(((Grew.refl w).alloc _).alloc _).below⟩
theorem Whole.two {w:World} {g:Nat} {t:TypeId} {a0 a1:Value} (h:Whole w g t [a0,a1]):w.cell? ⟨g,0,none⟩=some a0∧w.cell? ⟨g,1,none⟩=some a1:=⟨h.cell 0,h.cell 1⟩
end Go.Proofs.YtcodpnbemdflcaaGreatDoor

/-
  The whole of some bytes is read, or nothing: the deferred function that recovers, and whole, at an operation.
  The whole of some bytes is read, or nothing: whole at a heap, and GetHeap.
  GetHeap, and what the statements ask of heaps at one of them.
  GetOp, and the document's own answers for operations: contracts.
-/
import Derived.Test.YtcodpnbemdflcaaGreatDoorTg27
import Derived.Test.YtcodpnbemdflcaaGreatDoorTg31
import Derived.Test.YtcodpnbemdflcaaGreatDoorTg28
import Derived.Test.YtcodpnbemdflcaaGreatDoorTg2
namespace Go.Proofs.YtcodpnbemdflcaaGreatDoor
open Go.RowKit
set_option maxHeartbeats 1000000 in
theorem catchO_panics (p q:Nat) (w:World) (t:TypeId) (pv:Value) (older:List PanicEntry) (a0 a1 a2 a3 a4 a5 a6 x:Value) (hp:Whole w p 45 [a0,a1,a2,a3,a4,a5,a6]) (hq:Whole w q 29 [x]) :
  CallsD Tryz.prog 211 #[.pointer (some ⟨p,0,none⟩), .pointer (some ⟨q,0,none⟩)] (.panicking ({ v := .iface t pv,recovered:=false } :: older)) w fun e u' w' =>
   e = .returned (.tuple #[])∧u' = .panicking ({ v := .iface t pv,recovered:=true } :: older)∧Whole w' p 45 [.int .i64 0, .int .i64 0, .int .i64 0, .int .i64 0, .int .i64 0, .int .i64 0, .int .i64 0]∧Whole w' q 29 [.int .i64 60] ∧ ∀ B,B≤p→B≤q→Below B w w':=by
 refine callsD_of_wpS Tryz.func211 rfl fun c₀ cs hu => ?_
 apply wpS_seq
 apply wpS_region
 simp [wpOpsS,go_sem,recoverD,hu,Tryz.ntmps211,Exit.thenS]
 refine wpS_cond (t:=true) (by simp [Act.eval,Array.replicate]) ?_
 simp only [if_true]
 refine wpS_of_wp ?_
 have hne : ¬ p=q:=hp.ne hq (by decide)
 have hlp:=hp.lt
 have hlq:=hq.lt
 have b0:=hp.cell 0
 have b1:=hp.cell 1
 have b2:=hp.cell 2
 have b3:=hp.cell 3
 have b4:=hp.cell 4
 have b5:=hp.cell 5
 have b6:=hp.cell 6
 have z0:=hp.free 0
 have z1:=hp.free 1
 have z2:=hp.free 2
 have z3:=hp.free 3
 have z4:=hp.free 4
 have z5:=hp.free 5
 have z6:=hp.free 6
 have c0:=hq.cell 0
 have y0:=hq.free 0
 have K1:=hp.alloc (.cells #[.int .i64 0, .int .i64 0, .int .i64 0, .int .i64 0, .int .i64 0, .int .i64 0, .int .i64 0] 45)
 have Q1:=hq.alloc (.cells #[.int .i64 0, .int .i64 0, .int .i64 0, .int .i64 0, .int .i64 0, .int .i64 0, .int .i64 0] 45)
 show Code.wp _ _ _ { tmps := #[.pointer (some ⟨p,0,none⟩), .pointer (some ⟨q,0,none⟩),undef, .iface t pv, .bool true,undef],defers := [] } w
 go_wp2
 have KP:=(((((((hp.set 0 (.int .i64 0)).set 1 (.int .i64 0)).set 2 (.int .i64 0)).set 3 (.int .i64 0)).set 4 (.int .i64 0)).set 5 (.int .i64 0)).set 6 (.int .i64 0))
 have GP:=grown_sets7 (wr:=w) (b:=p) (.int .i64 0) (.int .i64 0) (.int .i64 0) (.int .i64 0) (.int .i64 0) (.int .i64 0) (.int .i64 0)
 have KQ:=(hq.grown GP (fun e=>hne e.symm)).set 0 (.int .i64 60)
 refine ⟨rfl,_,rfl, .tuple #[],by simp [results,Tryz.results211],rfl,rfl,?_,?_,?_⟩
 ·exact ((KP.grown (grown_set _ q 0 _) hne).alloc _)
 ·exact KQ.alloc _
 ·intro B h1 h2
  have hs:=GP.size
  have c1:=below_grown (Below.refl B w) GP (by omega) h1
  have c2:=below_grown c1 (grown_set _ q 0 (.int .i64 60)) (by omega) h2
  exact c2.alloc (by simp only [World.setCell,Array.size_modify];omega) _
set_option maxHeartbeats 1000000 in
theorem catchO_idle (p q:Nat) (w:World) :
  CallsD Tryz.prog 211 #[.pointer (some ⟨p,0,none⟩), .pointer (some ⟨q,0,none⟩)] .returning w fun e u' w'=>e = .returned (.tuple #[])∧u' = .returning∧w'=w:=by
 refine callsD_of_wpS Tryz.func211 rfl fun c₀ cs hu => ?_
 apply wpS_seq
 apply wpS_region
 simp [wpOpsS,go_sem,recoverD,hu,Tryz.ntmps211,Exit.thenS]
 refine wpS_cond (t:=false) (by simp [Act.eval,Array.replicate]) ?_
 simp only [Bool.false_eq_true,if_false]
 refine wpS_of_wp (wp_skip ?_)
 cases c₀
 simp_all [bodyPostS,results,Tryz.results211]
def zeroO:Value := .agg #[.int .i64 0, .int .i64 0, .int .i64 0, .int .i64 0, .int .i64 0, .int .i64 0, .int .i64 0]
def WholeO (w:World) (b:List UInt8) (e:Ending) (w':World):Prop :=
 Below w.heap.size w w'∧match prep pint 7 b with
  | some (vs, [])=>e = .returned (.tuple #[.agg (intvs vs).toArray, .int .i64 0])
  | _=>e = .returned (.tuple #[zeroO, .int .i64 60])
set_option maxHeartbeats 2000000 in
theorem wholeO_any (A:Option Addr) (n c:Nat) (b:List UInt8) (w:World) (hb:Rd w A n b) (hn:n≤70368744177664) :
  Calls Tryz.prog 158 #[.slice A n c, .func (.func 159) #[] #[]] w (WholeO w b):=by
 have hmf : ∀ (fn:Fn) (first cap:Array Value) (w:World),(Instr.makeFunc fn first cap).run Tryz.prog w = .ok (.func fn first cap) w:=fun _ _ _ _=>rfl
 go_enter_defers Tryz.func158,Tryz.ntmps158
 go_wp2_with fail
 have KP:=(Whole.new w #[.int .i64 0, .int .i64 0, .int .i64 0, .int .i64 0, .int .i64 0, .int .i64 0, .int .i64 0] 45).alloc (.cells #[.int .i64 0] 29)
 have KQ:=Whole.new (w.alloc (.cells #[.int .i64 0, .int .i64 0, .int .i64 0, .int .i64 0, .int .i64 0, .int .i64 0, .int .i64 0] 45)) #[.int .i64 0] 29
 rw [show (w.alloc (.cells #[.int .i64 0, .int .i64 0, .int .i64 0, .int .i64 0, .int .i64 0, .int .i64 0, .int .i64 0] 45)).heap.size=w.heap.size+1 by simp] at KQ
 have B0:=((Below.refl w.heap.size w).alloc (Nat.le_refl _) (.cells #[.int .i64 0, .int .i64 0, .int .i64 0, .int .i64 0, .int .i64 0, .int .i64 0, .int .i64 0] 45)).alloc (by simp) (.cells #[.int .i64 0] 29)
 generalize (w.alloc (.cells #[.int .i64 0, .int .i64 0, .int .i64 0, .int .i64 0, .int .i64 0, .int .i64 0, .int .i64 0] 45)).alloc (.cells #[.int .i64 0] 29)=W at KP KQ B0 ⊢
 refine (new_any A n c b W (hb.below B0) hn).mono ?_
 rintro e w1 ⟨g,rfl,hg,hgl,hr1,hb1⟩
 have KP1:=KP.below hb1
 have KQ1:=KQ.below hb1
 have B1:=B0.trans (hb1.mono B0.size)
 have hsz:=KQ.lt
 clear KP KQ B0 hb1
 have Hmf:=Lib.hid hmf
 dsimp only
 go_wp2_with fail
 have KT:=Whole.new w1 #[.pointer (some ⟨g,0,none⟩)] 236
 have KP2:=KP1.alloc (.cells #[.pointer (some ⟨g,0,none⟩)] 236)
 have KQ2:=KQ1.alloc (.cells #[.pointer (some ⟨g,0,none⟩)] 236)
 have R2:=hr1.alloc (.cells #[.pointer (some ⟨g,0,none⟩)] 236)
 have B2:=B1.alloc B1.size (.cells #[.pointer (some ⟨g,0,none⟩)] 236)
 generalize (w1.alloc (.cells #[.pointer (some ⟨g,0,none⟩)] 236))=W1 at KT KP2 KQ2 R2 B2 ⊢
 refine (rdOp_any g b W1 R2).mono ?_
 rintro e w2 ⟨hg2,hm⟩
 have B3:Below w.heap.size w w2:=below_grown B2 hg2 B2.size (by omega)
 have KP3:=KP2.grown hg2 (by omega)
 have KQ3:=KQ2.grown hg2 (by omega)
 have KT3:=KT.grown hg2 (by omega)
 have hT:=KP1.lt
 have hT2:=KQ1.lt
 clear KT KP2 KQ2 R2 B2 hg2 KP1 KQ1 B1 hr1
 have HB:=Lib.hid B3
 have HP:=Lib.hid KP3
 have HQ:=Lib.hid KQ3
 cases hq:prep pint 7 b with
 | none =>
  rw [hq] at hm
  subst hm
  have Hq:=Lib.hid hq
  clear hq B3 KP3 KQ3 KT3
  go_wp2
  refine leaves_cons (f:=211) (args := #[.pointer (some ⟨w.heap.size,0,none⟩), .pointer (some ⟨w.heap.size+1,0,none⟩)]) (by simp) (by simp [go_sem]) ?_
  refine (catchO_panics _ _ _ _ _ [] _ _ _ _ _ _ _ _ HP.out HQ.out).mono ?_
  rintro e u' w'' ⟨rfl,rfl,hp,hq,hB⟩
  refine ⟨_,results_c3 rfl _ _ _ _ _ _ rfl rfl hp hq Tryz.underlying45 (by kernel_rfl),?_⟩
  exact ⟨HB.out.trans (hB _ (Nat.le_refl _) (Nat.le_succ _)),by rw [Hq.out];rfl⟩
 | some q =>
  obtain ⟨vs,r⟩:=q
  rw [hq] at hm
  obtain ⟨v,rfl,rfl,hr2⟩:=hm
  have hlen:=prep_len hq
  have Hq:=Lib.hid hq
  clear hq
  match vs,hlen with
  | [v0,v1,v2,v3,v4,v5,v6],_ =>
   have K4:=(((((((KP3.set 0 (.int .i64 v0)).set 1 (.int .i64 v1)).set 2 (.int .i64 v2)).set 3 (.int .i64 v3)).set 4 (.int .i64 v4)).set 5 (.int .i64 v5)).set 6 (.int .i64 v6))
   have G4:=grown_sets7 (wr:=w2) (b:=w.heap.size) (.int .i64 v0) (.int .i64 v1) (.int .i64 v2) (.int .i64 v3) (.int .i64 v4) (.int .i64 v5) (.int .i64 v6)
   have Q4:=KQ3.grown G4 (by omega)
   have T4:=KT3.grown G4 (by omega)
   have R4:=hrdr7 hr2 (KP3.noByte (ints_noByte [] 7)) (by omega:g≠w.heap.size) (.int .i64 v0) (.int .i64 v1) (.int .i64 v2) (.int .i64 v3) (.int .i64 v4) (.int .i64 v5) (.int .i64 v6)
   have B4:=below_grown B3 G4 B3.size (Nat.le_refl _)
   have H4:=Lib.hid (And.intro K4 (And.intro Q4 (And.intro T4 (And.intro R4 B4))))
   have p0:=KP3.cell 0
   have p1:=KP3.cell 1
   have p2:=KP3.cell 2
   have p3:=KP3.cell 3
   have p4:=KP3.cell 4
   have p5:=KP3.cell 5
   have p6:=KP3.cell 6
   have z0:=KP3.free 0
   have z1:=KP3.free 1
   have z2:=KP3.free 2
   have z3:=KP3.free 3
   have z4:=KP3.free 4
   have z5:=KP3.free 5
   have z6:=KP3.free 6
   have t0:w2.cell? ⟨w1.heap.size,0,none⟩=some (.pointer (some ⟨g,0,none⟩)):=KT3.cell 0
   have hne : ¬ w.heap.size=w1.heap.size:=by omega
   clear K4 G4 Q4 T4 R4 B4 KP3 KQ3 KT3 B3 hr2
   dsimp only [intvs,List.map_cons,List.map_nil]
   go_wp2_with fail
   generalize ((((((w2.setCell ⟨w.heap.size,0,none⟩ (.int .i64 v0)).setCell ⟨w.heap.size,1,none⟩ (.int .i64 v1)).setCell ⟨w.heap.size,2,none⟩ (.int .i64 v2)).setCell ⟨w.heap.size,3,none⟩ (.int .i64 v3)).setCell ⟨w.heap.size,4,none⟩ (.int .i64 v4)).setCell ⟨w.heap.size,5,none⟩ (.int .i64 v5)).setCell ⟨w.heap.size,6,none⟩ (.int .i64 v6)=W4 at H4 ⊢
   obtain ⟨K4,Q4,T4,R4,B4⟩:=H4.out
   clear p0 p1 p2 p3 p4 p5 p6 z0 z1 z2 z3 z4 z5 z6 t0
   refine (left_any g r W4 R4).mono ?_
   rintro e w5 ⟨rfl,rfl⟩
   cases r with
   | cons r0 rs =>
    have hl:decide (0 < ((r0 :: rs).length:Int))=true:=by simp
    have hl2:(0:Int) < ((r0 :: rs).length:Int):=by simp
    generalize ((r0 :: rs).length:Int)=rl at *
    clear K4 Q4 T4 R4 B4
    go_wp2_with fail
    refine (giveUp_any _).mono ?_
    rintro e w6 ⟨rfl,rfl⟩
    go_wp2
    obtain ⟨K4,Q4,T4,R4,B4⟩:=H4.out
    refine leaves_cons (f:=211) (args := #[.pointer (some ⟨w.heap.size,0,none⟩), .pointer (some ⟨w.heap.size+1,0,none⟩)]) (by simp) (by simp [go_sem]) ?_
    refine (catchO_panics _ _ _ _ _ [] _ _ _ _ _ _ _ _ K4 Q4).mono ?_
    rintro e u' w'' ⟨rfl,rfl,hp,hq,hB⟩
    refine ⟨_,results_c3 rfl _ _ _ _ _ _ rfl rfl hp hq Tryz.underlying45 (by kernel_rfl),?_⟩
    exact ⟨B4.trans (hB _ (Nat.le_refl _) (Nat.le_succ _)),by rw [Hq.out];rfl⟩
   | nil =>
    have k0:W4.cell? ⟨w.heap.size,0,none⟩=some (.int .i64 v0):=K4.cell 0
    have k1:W4.cell? ⟨w.heap.size,1,none⟩=some (.int .i64 v1):=K4.cell 1
    have k2:W4.cell? ⟨w.heap.size,2,none⟩=some (.int .i64 v2):=K4.cell 2
    have k3:W4.cell? ⟨w.heap.size,3,none⟩=some (.int .i64 v3):=K4.cell 3
    have k4:W4.cell? ⟨w.heap.size,4,none⟩=some (.int .i64 v4):=K4.cell 4
    have k5:W4.cell? ⟨w.heap.size,5,none⟩=some (.int .i64 v5):=K4.cell 5
    have k6:W4.cell? ⟨w.heap.size,6,none⟩=some (.int .i64 v6):=K4.cell 6
    have z0:=K4.free 0
    have z1:=K4.free 1
    have z2:=K4.free 2
    have z3:=K4.free 3
    have z4:=K4.free 4
    have z5:=K4.free 5
    have z6:=K4.free 6
    have q0:=Q4.cell 0
    have y0:=Q4.free 0
    have K5:=(((((((K4.set 0 (.int .i64 v0)).set 1 (.int .i64 v1)).set 2 (.int .i64 v2)).set 3 (.int .i64 v3)).set 4 (.int .i64 v4)).set 5 (.int .i64 v5)).set 6 (.int .i64 v6))
    have G5:=grown_sets7 (wr:=W4) (b:=w.heap.size) (.int .i64 v0) (.int .i64 v1) (.int .i64 v2) (.int .i64 v3) (.int .i64 v4) (.int .i64 v5) (.int .i64 v6)
    have Q5:=(Q4.grown G5 (by omega)).set 0 (.int .i64 0)
    have K6:=K5.grown (grown_set _ (w.heap.size+1) 0 (.int .i64 0)) (by omega)
    have B5:=below_grown (below_grown B4 G5 B4.size (Nat.le_refl _)) (grown_set _ (w.heap.size+1) 0 (.int .i64 0)) (by have:=G5.size;have:=B4.size;omega) (Nat.le_succ _)
    have H5:=Lib.hid (And.intro K6 (And.intro Q5 B5))
    clear K4 Q4 T4 R4 B4 K5 G5 Q5 K6 B5
    go_wp2
    obtain ⟨K6,Q5,B5⟩:=H5.out
    refine leaves_cons (f:=211) (args := #[.pointer (some ⟨w.heap.size,0,none⟩), .pointer (some ⟨w.heap.size+1,0,none⟩)]) (by simp) (by simp [go_sem]) ?_
    refine (catchO_idle _ _ _).mono ?_
    rintro e u' w'' ⟨rfl,rfl,rfl⟩
    refine ⟨_,results_c3 rfl _ _ _ _ _ _ rfl rfl K6 Q5 Tryz.underlying45 (by kernel_rfl),?_⟩
    exact ⟨B5,by rw [Hq.out];rfl⟩
end Go.Proofs.YtcodpnbemdflcaaGreatDoor
namespace Go.Proofs.YtcodpnbemdflcaaGreatDoor
open Go.RowKit
set_option maxHeartbeats 1000000 in
theorem catchH_panics (p q:Nat) (w:World) (t:TypeId) (pv:Value) (older:List PanicEntry) (a0 a1 a2 a3 a4 a5 a6 a7 x:Value) (hp:Whole w p 28 [a0,a1,a2,a3,a4,a5,a6,a7]) (hq:Whole w q 29 [x]) :
  CallsD Tryz.prog 204 #[.pointer (some ⟨p,0,none⟩), .pointer (some ⟨q,0,none⟩)] (.panicking ({ v := .iface t pv,recovered:=false } :: older)) w fun e u' w' =>
   e = .returned (.tuple #[])∧u' = .panicking ({ v := .iface t pv,recovered:=true } :: older)∧Whole w' p 28 [.int .i64 0, .slice none 0 0, .int .i64 0, .int .i64 0, .int .i64 0, .int .i64 0, .int .i64 0, .slice none 0 0]∧Whole w' q 29 [.int .i64 60] ∧ ∀ B,B≤p→B≤q→Below B w w':=by
 refine callsD_of_wpS Tryz.func204 rfl fun c₀ cs hu => ?_
 apply wpS_seq
 apply wpS_region
 simp [wpOpsS,go_sem,recoverD,hu,Tryz.ntmps204,Exit.thenS]
 refine wpS_cond (t:=true) (by simp [Act.eval,Array.replicate]) ?_
 simp only [if_true]
 refine wpS_of_wp ?_
 have hne : ¬ p=q:=hp.ne hq (by decide)
 have hlp:=hp.lt
 have hlq:=hq.lt
 have b0:=hp.cell 0
 have z0:=hp.free 0
 have b1:=hp.cell 1
 have z1:=hp.free 1
 have b2:=hp.cell 2
 have z2:=hp.free 2
 have b3:=hp.cell 3
 have z3:=hp.free 3
 have b4:=hp.cell 4
 have z4:=hp.free 4
 have b5:=hp.cell 5
 have z5:=hp.free 5
 have b6:=hp.cell 6
 have z6:=hp.free 6
 have b7:=hp.cell 7
 have z7:=hp.free 7
 have c0:=hq.cell 0
 have y0:=hq.free 0
 show Code.wp _ _ _ { tmps := #[.pointer (some ⟨p,0,none⟩), .pointer (some ⟨q,0,none⟩),undef, .iface t pv, .bool true,undef],defers := [] } w
 go_wp2
 have KP:=((((((((hp.set 0 (.int .i64 0)).set 1 (.slice none 0 0)).set 2 (.int .i64 0)).set 3 (.int .i64 0)).set 4 (.int .i64 0)).set 5 (.int .i64 0)).set 6 (.int .i64 0)).set 7 (.slice none 0 0))
 have GP:=(grown_trans (grown_trans (grown_trans (grown_trans (grown_trans (grown_trans (grown_trans (grown_set w p 0 (.int .i64 0)) (grown_set _ p 1 (.slice none 0 0))) (grown_set _ p 2 (.int .i64 0))) (grown_set _ p 3 (.int .i64 0))) (grown_set _ p 4 (.int .i64 0))) (grown_set _ p 5 (.int .i64 0))) (grown_set _ p 6 (.int .i64 0))) (grown_set _ p 7 (.slice none 0 0)))
 have KQ:=(hq.grown GP (fun e=>hne e.symm)).set 0 (.int .i64 60)
 refine ⟨rfl,_,rfl, .tuple #[],by simp [results,Tryz.results204],rfl,rfl,?_,?_,?_⟩
 ·exact ((KP.grown (grown_set _ q 0 _) hne).alloc _)
 ·exact KQ.alloc _
 ·intro B h1 h2
  have hs:=GP.size
  have c1:=below_grown (Below.refl B w) GP (by omega) h1
  have c2:=below_grown c1 (grown_set _ q 0 (.int .i64 60)) (by omega) h2
  exact c2.alloc (by simp only [World.setCell,Array.size_modify];omega) _
set_option maxHeartbeats 1000000 in
theorem catchH_idle (p q:Nat) (w:World) :
  CallsD Tryz.prog 204 #[.pointer (some ⟨p,0,none⟩), .pointer (some ⟨q,0,none⟩)] .returning w fun e u' w'=>e = .returned (.tuple #[])∧u' = .returning∧w'=w:=by
 refine callsD_of_wpS Tryz.func204 rfl fun c₀ cs hu => ?_
 apply wpS_seq
 apply wpS_region
 simp [wpOpsS,go_sem,recoverD,hu,Tryz.ntmps204,Exit.thenS]
 refine wpS_cond (t:=false) (by simp [Act.eval,Array.replicate]) ?_
 simp only [Bool.false_eq_true,if_false]
 refine wpS_of_wp (wp_skip ?_)
 cases c₀
 simp_all [bodyPostS,results,Tryz.results204]
def GotH (w:World) (b:List UInt8) (e:Ending) (w':World):Prop :=
 Below w.heap.size w w'∧((∃ H s os,e = .returned (.tuple #[hval H s, .int .i64 0])∧OwnHp w' w.heap.size s os H∧GetsH b (some H))∨(e = .returned (.tuple #[.agg zcs.toArray, .int .i64 60])∧GetsH b none))
set_option maxHeartbeats 4000000 in
theorem wholeH_any (A:Option Addr) (n c:Nat) (b:List UInt8) (w:World) (hb:Rd w A n b) (hn:n≤70368744177664) (hT:Tab w) :
  Calls Tryz.prog 155 #[.slice A n c, .func (.func 156) #[] #[]] w (GotH w b):=by
 have hmf : ∀ (fn:Fn) (first cap:Array Value) (w:World),(Instr.makeFunc fn first cap).run Tryz.prog w = .ok (.func fn first cap) w:=fun _ _ _ _=>rfl
 have hTl:=hT.lt
 go_enter_defers Tryz.func155,Tryz.ntmps155
 go_wp2_with fail
 have KP:=(Whole.new w #[.int .i64 0, .slice none 0 0, .int .i64 0, .int .i64 0, .int .i64 0, .int .i64 0, .int .i64 0, .slice none 0 0] 28).alloc (.cells #[.int .i64 0] 29)
 have KQ:=Whole.new (w.alloc (.cells #[.int .i64 0, .slice none 0 0, .int .i64 0, .int .i64 0, .int .i64 0, .int .i64 0, .int .i64 0, .slice none 0 0] 28)) #[.int .i64 0] 29
 rw [show (w.alloc (.cells #[.int .i64 0, .slice none 0 0, .int .i64 0, .int .i64 0, .int .i64 0, .int .i64 0, .int .i64 0, .slice none 0 0] 28)).heap.size=w.heap.size+1 by simp] at KQ
 have B0:=((Below.refl w.heap.size w).alloc (Nat.le_refl _) (.cells #[.int .i64 0, .slice none 0 0, .int .i64 0, .int .i64 0, .int .i64 0, .int .i64 0, .int .i64 0, .slice none 0 0] 28)).alloc (by simp) (.cells #[.int .i64 0] 29)
 generalize (w.alloc (.cells #[.int .i64 0, .slice none 0 0, .int .i64 0, .int .i64 0, .int .i64 0, .int .i64 0, .int .i64 0, .slice none 0 0] 28)).alloc (.cells #[.int .i64 0] 29)=W at KP KQ B0 ⊢
 refine (new_any A n c b W (hb.below B0) hn).mono ?_
 rintro e w1 ⟨g,rfl,hg,hgl,hr1,hb1⟩
 have KP1:=KP.below hb1
 have KQ1:=KQ.below hb1
 have B1:=B0.trans (hb1.mono B0.size)
 have hsz:=KQ.lt
 clear KP KQ B0 hb1
 have Hmf:=Lib.hid hmf
 dsimp only
 go_wp2_with fail
 have KT:=Whole.new w1 #[.pointer (some ⟨g,0,none⟩)] 236
 have KP2:=KP1.alloc (.cells #[.pointer (some ⟨g,0,none⟩)] 236)
 have KQ2:=KQ1.alloc (.cells #[.pointer (some ⟨g,0,none⟩)] 236)
 have R2:=hr1.alloc (.cells #[.pointer (some ⟨g,0,none⟩)] 236)
 have B2:=B1.alloc B1.size (.cells #[.pointer (some ⟨g,0,none⟩)] 236)
 have hW1:w1.heap.size < (w1.alloc (.cells #[.pointer (some ⟨g,0,none⟩)] 236)).heap.size:=by simp
 generalize (w1.alloc (.cells #[.pointer (some ⟨g,0,none⟩)] 236))=W1 at KT KP2 KQ2 R2 B2 hW1 ⊢
 refine (rdHeap_any g b W1 R2 (hT.below B2) (by omega)).mono ?_
 rintro e w2 ⟨hg2,hm⟩
 have B3:Below w.heap.size w w2:=below_grown B2 hg2 B2.size (by omega)
 have KP3:=KP2.grown hg2 (by omega)
 have KQ3:=KQ2.grown hg2 (by omega)
 have KT3:=KT.grown hg2 (by omega)
 have hT1:=KP1.lt
 have hT2:=KQ1.lt
 clear KT KP2 KQ2 R2 B2 hg2 KP1 KQ1 B1 hr1
 have HB:=Lib.hid B3
 have HP:=Lib.hid KP3
 have HQ:=Lib.hid KQ3
 rcases hm with ⟨H,s,os,r,R,rfl,O2,hr2,hpr,hR,hHR⟩ | ⟨rfl,hbad⟩
 case inr =>
  have Hq:=Lib.hid (show GetsH b none from by
   rcases hbad with h | ⟨R,r,h1,h2⟩
   ·exact gets_none1 (g:=gp) gp_right h
   ·exact gets_none3 (g:=gp) gp_right h1 h2)
  clear hbad B3 KP3 KQ3 KT3
  go_wp2
  refine leaves_cons (f:=204) (args := #[.pointer (some ⟨w.heap.size,0,none⟩), .pointer (some ⟨w.heap.size+1,0,none⟩)]) (by simp) (by simp [go_sem]) ?_
  refine (catchH_panics _ _ _ _ _ [] _ _ _ _ _ _ _ _ _ HP.out HQ.out).mono ?_
  rintro e u' w'' ⟨rfl,rfl,hp,hq,hB⟩
  refine ⟨_,results_c3 rfl _ _ _ _ _ _ rfl rfl hp hq Tryz.underlying28 (by kernel_rfl),?_⟩
  exact ⟨HB.out.trans (hB _ (Nat.le_refl _) (Nat.le_succ _)), .inr ⟨rfl,Hq.out⟩⟩
 case inl =>
  have Hpr:=Lib.hid hpr
  have HR:=Lib.hid hR
  have HHR:=Lib.hid hHR
  clear hpr hR hHR
  obtain ⟨Ao,no,co,AF,nF,cF⟩:=s
  have G4:=(grown_trans (grown_trans (grown_trans (grown_trans (grown_trans (grown_trans (grown_trans (grown_set w2 w.heap.size 0 (.int .i64 H.od)) (grown_set _ w.heap.size 1 (.slice Ao no co))) (grown_set _ w.heap.size 2 (.int .i64 H.nx))) (grown_set _ w.heap.size 3 (.int .i64 (tget H 0)))) (grown_set _ w.heap.size 4 (.int .i64 (tget H 1)))) (grown_set _ w.heap.size 5 (.int .i64 (tget H 2)))) (grown_set _ w.heap.size 6 (.int .i64 (tget H 3)))) (grown_set _ w.heap.size 7 (.slice AF nF cF)))
  have K4:=((((((((KP3.set 0 (.int .i64 H.od)).set 1 (.slice Ao no co)).set 2 (.int .i64 H.nx)).set 3 (.int .i64 (tget H 0))).set 4 (.int .i64 (tget H 1))).set 5 (.int .i64 (tget H 2))).set 6 (.int .i64 (tget H 3))).set 7 (.slice AF nF cF))
  have Q4:=KQ3.grown G4 (by omega)
  have T4:=KT3.grown G4 (by omega)
  have R4:=hr2.apart (KP3.noByte zcs_nob) (by omega:g≠w.heap.size) G4
  have B4:=below_grown B3 G4 B3.size (Nat.le_refl _)
  have O4:=O2.grownI G4 (by omega)
  have H4:=Lib.hid (And.intro K4 (And.intro Q4 (And.intro T4 (And.intro R4 (And.intro B4 O4)))))
  have p0:=KP3.cell 0
  have z0:=KP3.free 0
  have p1:=KP3.cell 1
  have z1:=KP3.free 1
  have p2:=KP3.cell 2
  have z2:=KP3.free 2
  have p3:=KP3.cell 3
  have z3:=KP3.free 3
  have p4:=KP3.cell 4
  have z4:=KP3.free 4
  have p5:=KP3.cell 5
  have z5:=KP3.free 5
  have p6:=KP3.cell 6
  have z6:=KP3.free 6
  have p7:=KP3.cell 7
  have z7:=KP3.free 7
  have t0:w2.cell? ⟨w1.heap.size,0,none⟩=some (.pointer (some ⟨g,0,none⟩)):=KT3.cell 0
  have hne : ¬ w.heap.size=w1.heap.size:=by omega
  clear K4 G4 Q4 T4 R4 B4 O4 KP3 KQ3 KT3 B3 hr2 O2
  simp only [hval,hcs]
  go_wp2_with fail
  generalize (((((((w2.setCell ⟨w.heap.size,0,none⟩ (.int .i64 H.od)).setCell ⟨w.heap.size,1,none⟩ (.slice Ao no co)).setCell ⟨w.heap.size,2,none⟩ (.int .i64 H.nx)).setCell ⟨w.heap.size,3,none⟩ (.int .i64 (tget H 0))).setCell ⟨w.heap.size,4,none⟩ (.int .i64 (tget H 1))).setCell ⟨w.heap.size,5,none⟩ (.int .i64 (tget H 2))).setCell ⟨w.heap.size,6,none⟩ (.int .i64 (tget H 3))).setCell ⟨w.heap.size,7,none⟩ (.slice AF nF cF)=W4 at H4 ⊢
  obtain ⟨K4,Q4,T4,R4,B4,O4⟩:=H4.out
  clear p0 z0 p1 z1 p2 z2 p3 z3 p4 z4 p5 z5 p6 z6 p7 z7 t0
  refine (left_any g r W4 R4).mono ?_
  rintro e w5 ⟨rfl,rfl⟩
  cases r with
  | cons r0 rs =>
   have hl:decide (0 < ((r0 :: rs).length:Int))=true:=by simp
   have hl2:(0:Int) < ((r0 :: rs).length:Int):=by simp
   have Hq:=Lib.hid (gets_none2 (g:=gp) gp_right Hpr.out (by simp))
   generalize ((r0 :: rs).length:Int)=rl at *
   clear K4 Q4 T4 R4 B4 O4
   go_wp2_with fail
   refine (giveUp_any _).mono ?_
   rintro e w6 ⟨rfl,rfl⟩
   go_wp2
   obtain ⟨K4,Q4,T4,R4,B4,O4⟩:=H4.out
   refine leaves_cons (f:=204) (args := #[.pointer (some ⟨w.heap.size,0,none⟩), .pointer (some ⟨w.heap.size+1,0,none⟩)]) (by simp) (by simp [go_sem]) ?_
   refine (catchH_panics _ _ _ _ _ [] _ _ _ _ _ _ _ _ _ K4 Q4).mono ?_
   rintro e u' w'' ⟨rfl,rfl,hp,hq,hB⟩
   refine ⟨_,results_c3 rfl _ _ _ _ _ _ rfl rfl hp hq Tryz.underlying28 (by kernel_rfl),?_⟩
   exact ⟨B4.trans (hB _ (Nat.le_refl _) (Nat.le_succ _)), .inr ⟨rfl,Hq.out⟩⟩
  | nil =>
   have Hq:=Lib.hid (show GetsH b (some H) from by
    rw [HHR.out]
    exact gets_some (g:=gp) Hpr.out (by rw [← HHR.out];exact HR.out))
   have k0:W4.cell? ⟨w.heap.size,0,none⟩=some (.int .i64 H.od):=K4.cell 0
   have z0:=K4.free 0
   have k1:W4.cell? ⟨w.heap.size,1,none⟩=some (.slice Ao no co):=K4.cell 1
   have z1:=K4.free 1
   have k2:W4.cell? ⟨w.heap.size,2,none⟩=some (.int .i64 H.nx):=K4.cell 2
   have z2:=K4.free 2
   have k3:W4.cell? ⟨w.heap.size,3,none⟩=some (.int .i64 (tget H 0)):=K4.cell 3
   have z3:=K4.free 3
   have k4:W4.cell? ⟨w.heap.size,4,none⟩=some (.int .i64 (tget H 1)):=K4.cell 4
   have z4:=K4.free 4
   have k5:W4.cell? ⟨w.heap.size,5,none⟩=some (.int .i64 (tget H 2)):=K4.cell 5
   have z5:=K4.free 5
   have k6:W4.cell? ⟨w.heap.size,6,none⟩=some (.int .i64 (tget H 3)):=K4.cell 6
   have z6:=K4.free 6
   have k7:W4.cell? ⟨w.heap.size,7,none⟩=some (.slice AF nF cF):=K4.cell 7
   have z7:=K4.free 7
   have q0:=Q4.cell 0
   have y0:=Q4.free 0
   have G5:=(grown_trans (grown_trans (grown_trans (grown_trans (grown_trans (grown_trans (grown_trans (grown_set W4 w.heap.size 0 (.int .i64 H.od)) (grown_set _ w.heap.size 1 (.slice Ao no co))) (grown_set _ w.heap.size 2 (.int .i64 H.nx))) (grown_set _ w.heap.size 3 (.int .i64 (tget H 0)))) (grown_set _ w.heap.size 4 (.int .i64 (tget H 1)))) (grown_set _ w.heap.size 5 (.int .i64 (tget H 2)))) (grown_set _ w.heap.size 6 (.int .i64 (tget H 3)))) (grown_set _ w.heap.size 7 (.slice AF nF cF)))
   have K5:=((((((((K4.set 0 (.int .i64 H.od)).set 1 (.slice Ao no co)).set 2 (.int .i64 H.nx)).set 3 (.int .i64 (tget H 0))).set 4 (.int .i64 (tget H 1))).set 5 (.int .i64 (tget H 2))).set 6 (.int .i64 (tget H 3))).set 7 (.slice AF nF cF))
   have Q5:=(Q4.grown G5 (by omega)).set 0 (.int .i64 0)
   have K6:=K5.grown (grown_set _ (w.heap.size+1) 0 (.int .i64 0)) (by omega)
   have B5:=below_grown (below_grown B4 G5 B4.size (Nat.le_refl _)) (grown_set _ (w.heap.size+1) 0 (.int .i64 0)) (by have:=G5.size;have:=B4.size;omega) (Nat.le_succ _)
   have O5:=((O4.grownI G5 (by omega)).grownI (grown_set _ (w.heap.size+1) 0 (.int .i64 0)) (by omega)).mono (base':=w.heap.size) (by omega)
   have H5:=Lib.hid (And.intro K6 (And.intro Q5 (And.intro B5 O5)))
   clear K4 Q4 T4 R4 B4 O4 K5 G5 Q5 K6 B5 O5
   go_wp2
   obtain ⟨K6,Q5,B5,O5⟩:=H5.out
   refine leaves_cons (f:=204) (args := #[.pointer (some ⟨w.heap.size,0,none⟩), .pointer (some ⟨w.heap.size+1,0,none⟩)]) (by simp) (by simp [go_sem]) ?_
   refine (catchH_idle _ _ _).mono ?_
   rintro e u' w'' ⟨rfl,rfl,rfl⟩
   refine ⟨_,results_c3 rfl _ _ _ _ _ _ rfl rfl K6 Q5 Tryz.underlying28 (by kernel_rfl),?_⟩
   exact ⟨B5, .inl ⟨H,⟨Ao,no,co,AF,nF,cF⟩,os,rfl,O5,Hq.out⟩⟩
end Go.Proofs.YtcodpnbemdflcaaGreatDoor
namespace Go.Proofs.YtcodpnbemdflcaaGreatDoor
open Go.RowKit
set_option maxHeartbeats 2000000 in
theorem getHeap_any (A:Option Addr) (n c:Nat) (b:List UInt8) (w:World) (hb:Rd w A n b) (hn:n≤70368744177664) (hT:Tab w) :
  Calls Tryz.prog 111 #[.slice A n c] w (GotH w b):=by
 go_enter Tryz.func111,Tryz.ntmps111
 go_wp2_with fail
 have KR:=Whole.new w #[.int .i64 0, .slice none 0 0, .int .i64 0, .int .i64 0, .int .i64 0, .int .i64 0, .int .i64 0, .slice none 0 0] 28
 have B0:=(Below.refl w.heap.size w).alloc (Nat.le_refl _) (.cells #[.int .i64 0, .slice none 0 0, .int .i64 0, .int .i64 0, .int .i64 0, .int .i64 0, .int .i64 0, .slice none 0 0] 28)
 generalize w.alloc (.cells #[.int .i64 0, .slice none 0 0, .int .i64 0, .int .i64 0, .int .i64 0, .int .i64 0, .int .i64 0, .slice none 0 0] 28)=W at KR B0 ⊢
 refine (wholeH_any A n c b W (hb.below B0) hn (hT.below B0)).mono ?_
 rintro e w1 ⟨hB,he⟩
 have KR1:=KR.below hB
 have B1:=B0.trans (hB.mono B0.size)
 have hlt:=KR.lt
 rcases he with ⟨H,⟨Ao,no,co,AF,nF,cF⟩,os,rfl,O1,hG⟩ | ⟨rfl,hG⟩
 ·have Hg:=Lib.hid hG
  have p0:=KR1.cell 0
  have z0:=KR1.free 0
  have p1:=KR1.cell 1
  have z1:=KR1.free 1
  have p2:=KR1.cell 2
  have z2:=KR1.free 2
  have p3:=KR1.cell 3
  have z3:=KR1.free 3
  have p4:=KR1.cell 4
  have z4:=KR1.free 4
  have p5:=KR1.cell 5
  have z5:=KR1.free 5
  have p6:=KR1.cell 6
  have z6:=KR1.free 6
  have p7:=KR1.cell 7
  have z7:=KR1.free 7
  have G7:=(grown_trans (grown_trans (grown_trans (grown_trans (grown_trans (grown_trans (grown_trans (grown_set w1 w.heap.size 0 (.int .i64 H.od)) (grown_set _ w.heap.size 1 (.slice Ao no co))) (grown_set _ w.heap.size 2 (.int .i64 H.nx))) (grown_set _ w.heap.size 3 (.int .i64 (tget H 0)))) (grown_set _ w.heap.size 4 (.int .i64 (tget H 1)))) (grown_set _ w.heap.size 5 (.int .i64 (tget H 2)))) (grown_set _ w.heap.size 6 (.int .i64 (tget H 3)))) (grown_set _ w.heap.size 7 (.slice AF nF cF)))
  have K7:=((((((((KR1.set 0 (.int .i64 H.od)).set 1 (.slice Ao no co)).set 2 (.int .i64 H.nx)).set 3 (.int .i64 (tget H 0))).set 4 (.int .i64 (tget H 1))).set 5 (.int .i64 (tget H 2))).set 6 (.int .i64 (tget H 3))).set 7 (.slice AF nF cF))
  have O7:=(O1.grownI G7 hlt).mono (base':=w.heap.size) (Nat.le_of_lt hlt)
  have H7:=Lib.hid (And.intro K7 (And.intro (below_grown B1 G7 B1.size (Nat.le_refl _)) O7))
  clear K7 G7 O7 O1 KR KR1 B0 B1 hB hG
  simp only [hval,hcs]
  go_wp2
  refine bodyPost_ret (results_c2 rfl _ _ _ _ rfl H7.out.1 Tryz.underlying28 (by kernel_rfl)) rfl ?_
  exact ⟨H7.out.2.1, .inl ⟨H,⟨Ao,no,co,AF,nF,cF⟩,os,rfl,H7.out.2.2,Hg.out⟩⟩
 ·have Hg:=Lib.hid hG
  have p0:=KR1.cell 0
  have z0:=KR1.free 0
  have p1:=KR1.cell 1
  have z1:=KR1.free 1
  have p2:=KR1.cell 2
  have z2:=KR1.free 2
  have p3:=KR1.cell 3
  have z3:=KR1.free 3
  have p4:=KR1.cell 4
  have z4:=KR1.free 4
  have p5:=KR1.cell 5
  have z5:=KR1.free 5
  have p6:=KR1.cell 6
  have z6:=KR1.free 6
  have p7:=KR1.cell 7
  have z7:=KR1.free 7
  have G7:=(grown_trans (grown_trans (grown_trans (grown_trans (grown_trans (grown_trans (grown_trans (grown_set w1 w.heap.size 0 (.int .i64 0)) (grown_set _ w.heap.size 1 (.slice none 0 0))) (grown_set _ w.heap.size 2 (.int .i64 0))) (grown_set _ w.heap.size 3 (.int .i64 0))) (grown_set _ w.heap.size 4 (.int .i64 0))) (grown_set _ w.heap.size 5 (.int .i64 0))) (grown_set _ w.heap.size 6 (.int .i64 0))) (grown_set _ w.heap.size 7 (.slice none 0 0)))
  have K7:=((((((((KR1.set 0 (.int .i64 0)).set 1 (.slice none 0 0)).set 2 (.int .i64 0)).set 3 (.int .i64 0)).set 4 (.int .i64 0)).set 5 (.int .i64 0)).set 6 (.int .i64 0)).set 7 (.slice none 0 0))
  have H7:=Lib.hid (And.intro K7 (below_grown B1 G7 B1.size (Nat.le_refl _)))
  clear K7 G7 KR KR1 B0 B1 hB hG
  simp only [zcs]
  go_wp2
  refine bodyPost_ret (results_c2 rfl _ _ _ _ rfl H7.out.1 Tryz.underlying28 (by kernel_rfl)) rfl ?_
  exact ⟨H7.out.2, .inr ⟨rfl,Hg.out⟩⟩
end Go.Proofs.YtcodpnbemdflcaaGreatDoor
namespace Go.Proofs.YtcodpnbemdflcaaGreatDoor
open Go.RowKit
def oRes (b:List UInt8):List Int × Int:=match prep pint 7 b with | some (vs, [])=>(vs,0) | _=>([0,0,0,0,0,0,0],60)
theorem oRes_some {b:List UInt8} {vs:List Int} (h:prep pint 7 b=some (vs, [])):oRes b=(vs,0):=by unfold oRes;rw [h]
theorem oRes_len (b:List UInt8):(oRes b).1.length=7:=by
 unfold oRes
 split
 ·rename_i h;exact prep_len h
 ·rfl
def GotO (w:World) (b:List UInt8) (e:Ending) (w':World):Prop:=Below w.heap.size w w'∧e = .returned (.tuple #[.agg (intvs (oRes b).1).toArray, .int .i64 (oRes b).2])
theorem WholeO.got {w w':World} {b:List UInt8} {e:Ending} (h:WholeO w b e w'):GotO w b e w':=by
 refine ⟨h.1,?_⟩
 have h2:=h.2
 unfold oRes
 split at h2
 ·rename_i hq
  first | (rw [hq];exact h2) | exact h2
 ·rename_i hq
  rw [h2]
  first | rfl | (split <;> first | rfl | (rename_i vs hq2;exact absurd hq2 (hq vs)))
set_option maxHeartbeats 1000000 in
theorem getOp_any (A:Option Addr) (n c:Nat) (b:List UInt8) (w:World) (hb:Rd w A n b) (hn:n≤70368744177664) :
  Calls Tryz.prog 115 #[.slice A n c] w (GotO w b):=by
 have hlen:=oRes_len b
 go_enter Tryz.func115,Tryz.ntmps115
 go_wp2_with fail
 have KR:=Whole.new w #[.int .i64 0, .int .i64 0, .int .i64 0, .int .i64 0, .int .i64 0, .int .i64 0, .int .i64 0] 45
 have B0:=(Below.refl w.heap.size w).alloc (Nat.le_refl _) (.cells #[.int .i64 0, .int .i64 0, .int .i64 0, .int .i64 0, .int .i64 0, .int .i64 0, .int .i64 0] 45)
 generalize w.alloc (.cells #[.int .i64 0, .int .i64 0, .int .i64 0, .int .i64 0, .int .i64 0, .int .i64 0, .int .i64 0] 45)=W at KR B0 ⊢
 refine ((wholeO_any A n c b W (hb.below B0) hn).mono fun _ _ h=>h.got).mono ?_
 rintro e w1 ⟨hB,he⟩
 have KR1:=KR.below hB
 have B1:=B0.trans (hB.mono B0.size)
 rcases hx:oRes b with ⟨l,er⟩
 rw [hx] at hlen he
 have Hr:=Lib.hid hx
 clear hx
 simp only at hlen he
 match l,hlen with
 | [v0,v1,v2,v3,v4,v5,v6],_ =>
  subst he
  have p0:=KR1.cell 0
  have p1:=KR1.cell 1
  have p2:=KR1.cell 2
  have p3:=KR1.cell 3
  have p4:=KR1.cell 4
  have p5:=KR1.cell 5
  have p6:=KR1.cell 6
  have z0:=KR1.free 0
  have z1:=KR1.free 1
  have z2:=KR1.free 2
  have z3:=KR1.free 3
  have z4:=KR1.free 4
  have z5:=KR1.free 5
  have z6:=KR1.free 6
  have K7:=(((((((KR1.set 0 (.int .i64 v0)).set 1 (.int .i64 v1)).set 2 (.int .i64 v2)).set 3 (.int .i64 v3)).set 4 (.int .i64 v4)).set 5 (.int .i64 v5)).set 6 (.int .i64 v6))
  have G7:=grown_sets7 (wr:=w1) (b:=w.heap.size) (.int .i64 v0) (.int .i64 v1) (.int .i64 v2) (.int .i64 v3) (.int .i64 v4) (.int .i64 v5) (.int .i64 v6)
  have H7:=Lib.hid (And.intro K7 (below_grown B1 G7 B1.size (Nat.le_refl _)))
  clear K7 G7 KR KR1 B0 B1 hB
  dsimp only [intvs,List.map_cons,List.map_nil]
  go_wp2
  refine bodyPost_ret (results_c2 rfl _ _ _ _ rfl H7.out.1 Tryz.underlying45 (by kernel_rfl)) rfl ?_
  exact ⟨H7.out.2,by rw [Hr.out];rfl⟩
end Go.Proofs.YtcodpnbemdflcaaGreatDoor

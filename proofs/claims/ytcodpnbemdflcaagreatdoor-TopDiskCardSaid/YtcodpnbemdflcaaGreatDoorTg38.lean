/-
  Package redo: what lies in the part is taken up (load), where a log lies there whose root tells of no record: a contract.
  Package redo: what may give up is done (caught), where it does not give up: contracts, one for each function that is handed over.
  Package redo: what Open does with the disk (its function literal): a contract over whatever load tells.
  Package redo: Open, at a part of a disk that has not stopped: a contract over whatever load tells.
-/
import Derived.Test.YtcodpnbemdflcaaGreatDoorTg37
import Derived.Defers
import Derived.Recover
import Derived.WalkLawsBesides
import Derived.Laws.Rows
import Derived.Laws.ResultCell
import Derived.Shelf.Abstract
namespace Go.Proofs.YtcodpnbemdflcaaGreatDoor
open Go.RowKit
theorem pc_isPc {ag nu age:Nat} {t:List UInt8} {i:Nat} (h1:1≤ag) (h2:ag≤age) (h3:age≤2147483647) (h4:1≤nu) (h5:nu≤2147483647) (h6:t.length≤1024) (hi:i < np t.length):IsPc (pc ag nu t i) age :=
 ⟨rfl,h1,h2,h3,h4,h5,h6,hi,by
  show (((t.drop (36*i)).take 36).length:Int)=min 36 ((t.length:Int) - (i:Int)*36)
  rw [List.length_take,List.length_drop]
  unfold np at hi
  omega⟩
end Go.Proofs.YtcodpnbemdflcaaGreatDoor
namespace Go.Proofs.YtcodpnbemdflcaaGreatDoor
open Go.RowKit
set_option maxHeartbeats 1000000 in
theorem caught_idle (q:Nat) (w:World) :
  CallsD Tryz.prog 102 #[.pointer (some ⟨q,0,none⟩)] .returning w fun e u' w'=>e = .returned (.tuple #[])∧u' = .returning∧w'=w:=by
 refine callsD_of_wpS Tryz.func102 rfl fun c₀ cs hu => ?_
 apply wpS_seq
 apply wpS_region
 simp [wpOpsS,go_sem,recoverD,hu,Tryz.ntmps102,Exit.thenS]
 refine wpS_of_wp ?_
 show Code.wp _ _ _ { tmps := #[.pointer (some ⟨q,0,none⟩), .nilIface, .nilIface,undef,undef,undef,undef],defers := [] } w
 go_wp2
 cases c₀
 simp_all [bodyPostS,results,Tryz.results102]
theorem lg_results_errno {fn:Func} {p:Tmp} {t:TypeId} (h:fn.results = #[.cell p 29]) (tmps:Array Value) (w:World) (g:Nat) (v:Value)
  (hp:tmps.getD p undef = .pointer (some ⟨g,0,none⟩)) (hg:Whole w g t [v]):(results fn tmps).run Tryz.prog w = .ok v w:=by
 have hp':tmps[p]?.getD undef = .pointer (some ⟨g,0,none⟩):=by simpa using hp
 have c0:w.cell? ⟨g,0,none⟩=some v:=hg.cell 0
 have i1:=Tryz.isAgg29
 simp only [results,h]
 simp [hp',asAddr,go_sem,i1,c0]
def CaughtPost (w:World) (Q:World→Prop) (e:Ending) (w':World):Prop:=e = .returned (.int .i64 0) ∧ ∃ w1,Q w1∧w'=w1.setCell ⟨w.heap.size,0,none⟩ (.int .i64 0)
set_option maxRecDepth 20000 in
set_option maxHeartbeats 1000000 in
theorem caught_any {f:FuncId} {cap:Array Value} {w:World} {Q:World→Prop} (he : ∀ (args:Array Value) (w:World),(callFunc f args).run Tryz.prog w = .ok (.enter f args) w)
  (hc:Calls Tryz.prog f cap (w.alloc (.cells #[.int .i64 0] 29)) (fun e w'=>e = .returned (.tuple #[])∧Q w'))
  (hQ : ∀ w',Q w'→Whole w' w.heap.size 29 [.int .i64 0]) :
  Calls Tryz.prog 65 #[.func (.func f) #[] cap] w (CaughtPost w Q):=by
 have hmf : ∀ (fn:Fn) (first cap:Array Value) (w:World),(Instr.makeFunc fn first cap).run Tryz.prog w = .ok (.func fn first cap) w:=fun _ _ _ _=>rfl
 have HC:=Lib.hid hc
 have HQ:=Lib.hid hQ
 clear hc hQ
 go_enter_defers Tryz.func65,Tryz.ntmps65
 go_wp2_with fail
 refine HC.out.mono ?_
 rintro e w1 ⟨rfl,q⟩
 have hK:=HQ.out w1 q
 have c0:=hK.cell 0
 have f0:=hK.free 0
 simp only [List.getElem?_cons_zero] at c0
 have hK2:=hK.set 0 (.int .i64 0)
 have HF:=Lib.hid (And.intro hK2 q)
 clear q hK hK2
 dsimp only
 go_wp2
 refine leaves_cons (f:=102) (args := #[.pointer (some ⟨w.heap.size,0,none⟩)]) (by simp) (by simp [go_sem]) ?_
 refine (caught_idle _ _).mono ?_
 rintro e u' w'' ⟨rfl,rfl,rfl⟩
 refine ⟨_,lg_results_errno rfl _ _ _ _ rfl HF.out.1,rfl,w1,HF.out.2,rfl⟩
end Go.Proofs.YtcodpnbemdflcaaGreatDoor
namespace Go.Proofs.YtcodpnbemdflcaaGreatDoor
open Go.RowKit
theorem OwnV.oth {U:TypeId} {X:Nat→Prop} {w w':World} {base:Nat} {v:Value} {l:List Value} (h:OwnV U w base v l) (ho:Oth X w w') (hX : ∀ k,X k→k < base):OwnV U w' base v l :=
 h.keep fun k hk=>ho.block k (h.lt k hk).2 (fun hx=>by have:=hX k hx;have:=(h.lt k hk).1;omega)
theorem DAt.grownBy {w w':World} {p q r n x:Nat} {S:Dk} (h:DAt w p q r n S) (hg:w.grownBy w' (some x)) (hx : ¬ ds p q r x):DAt w' p q r n S:=h.keep hg.size fun k hk=>hg.block k (h.lt hk) (fun e=>hx (by injection e with e;rw [← e];exact hk))
theorem szs_all (T:List (List UInt8)):(nts (szs T T.length)).length=T.length:=by simp [nts,szs]
end Go.Proofs.YtcodpnbemdflcaaGreatDoor
namespace Go.Proofs.YtcodpnbemdflcaaGreatDoor
open Go.RowKit
theorem results_tmp4 {fn:Func} {t u v x:Tmp} (h:fn.results = #[.tmp t, .tmp u, .tmp v, .tmp x]) (tmps:Array Value) (P:Program) (w:World) :
  (results fn tmps).run P w = .ok (.tuple #[tmps.getD t undef,tmps.getD u undef,tmps.getD v undef,tmps.getD x undef]) w:=by
 simp [results,h]
end Go.Proofs.YtcodpnbemdflcaaGreatDoor

/-
  The kit's contracts of slices.SortFunc, ContainsFunc, Clone and cmp.Compare, laid at this program's functions, in plain words. No condition of its own.
  Whether free blocks are right, whether it may be asked, whether there is room; the whole region: contracts.
  What the document's helpers for rows of blocks do: one is among them, two rows are the same, a row of its own, one more, one less, how many words: contracts.
-/
import Derived.Shelf.SlGeneric
import Derived.Shelf.SlLaysF0
import Derived.Shelf.SlSortCmp.QuietGrown
import Derived.Deep.Cut
import Derived.Deep.LoopGhost
import Derived.Deep.QuietTactic
import Derived.Shelf.SlicesQ.IndexFunc
import Derived.Shelf.SlicesG.Cmp
import Derived.Shelf.SlicesE.Clone
import Derived.Ground.SlsfProg
import Derived.Ground.SlgcProg
import Derived.Ground.SlgfProg
import Derived.Ground.SlgnProg
import Derived.Test.YtcodpnbemdflcaaGreatDoorProg
import Derived.Test.YtcodpnbemdflcaaGreatDoorTg7
namespace Go.Proofs
open Go.Shelf
def Tryz.sortB_ren:Go.Shelf.Ren:=⟨fun | 6=>77 | 15=>101 | 14=>121 | 28=>147 | 29=>148 | 20=>166 | 21=>167 | 22=>168 | 23=>169 | 24=>170 | 25=>171 | 26=>172 | 27=>173 | 46=>220 | 47=>187 | 48=>188 | 49=>221 | 50=>222 | 57=>253 | n=>n,fun | 22=>26 | 24=>57 | 25=>134 | 3=>3 | 39=>158 | 0=>0 | 53=>225 | 55=>227 | 4=>4 | 46=>218 | 45=>217 | 50=>140 | 5=>5 | 9=>9 | 66=>262 | 70=>112 | 76=>308 | 77=>309 | n=>n,fun | n=>n⟩
theorem Tryz.sortB:Go.Proofs.SlLaysF0.n6 Tryz.prog Tryz.sortB_ren := {
 mixed:=by kernel_rfl
 f6:=⟨Tryz.f77.name,by decide,Tryz.func77.trans (congrArg some (by kernel_rfl))⟩
 f14:=⟨Tryz.f121.name,by decide,Tryz.func121.trans (congrArg some (by kernel_rfl))⟩
 f15:=Tryz.func101.trans (congrArg some (by kernel_rfl))
 f20:=⟨Tryz.f166.name,by decide,Tryz.func166.trans (congrArg some (by kernel_rfl))⟩
 f21:=⟨Tryz.f167.name,by decide,Tryz.func167.trans (congrArg some (by kernel_rfl))⟩
 f22:=⟨Tryz.f168.name,by decide,Tryz.func168.trans (congrArg some (by kernel_rfl))⟩
 f23:=⟨Tryz.f169.name,by decide,Tryz.func169.trans (congrArg some (by kernel_rfl))⟩
 f24:=⟨Tryz.f170.name,by decide,Tryz.func170.trans (congrArg some (by kernel_rfl))⟩
 f25:=⟨Tryz.f171.name,by decide,Tryz.func171.trans (congrArg some (by kernel_rfl))⟩
 f26:=⟨Tryz.f172.name,by decide,Tryz.func172.trans (congrArg some (by kernel_rfl))⟩
 f27:=⟨Tryz.f173.name,by decide,Tryz.func173.trans (congrArg some (by kernel_rfl))⟩
 f28:=Tryz.func147.trans (congrArg some (by kernel_rfl))
 f29:=Tryz.func148.trans (congrArg some (by kernel_rfl))
 f46:=⟨Tryz.f220.name,by decide,Tryz.func220.trans (congrArg some (by kernel_rfl))⟩
 f47:=Tryz.func187.trans (congrArg some (by kernel_rfl))
 f48:=Tryz.func188.trans (congrArg some (by kernel_rfl))
 f49:=⟨Tryz.f221.name,by decide,Tryz.func221.trans (congrArg some (by kernel_rfl))⟩
 f50:=⟨Tryz.f222.name,by decide,Tryz.func222.trans (congrArg some (by kernel_rfl))⟩
 f57:=⟨Tryz.f253.name,by decide,Tryz.func253.trans (congrArg some (by kernel_rfl))⟩
 t0:=Tryz.underlying0
 a0:=Tryz.isAgg0
 z0:=Tryz.sizeOf0
 v0:=Tryz.zeroValue0
 t3:=Tryz.underlying3
 a3:=Tryz.isAgg3
 z3:=Tryz.sizeOf3
 v3:=Tryz.zeroValue3
 t4:=Tryz.underlying4
 a4:=Tryz.isAgg4
 z4:=Tryz.sizeOf4
 v4:=Tryz.zeroValue4
 t5:=Tryz.underlying5
 a5:=Tryz.isAgg5
 z5:=Tryz.sizeOf5
 v5:=Tryz.zeroValue5
 t9:=Tryz.underlying9
 a9:=Tryz.isAgg9
 z9:=Tryz.sizeOf9
 v9:=Tryz.zeroValue9
 t22:=Tryz.underlying26
 a22:=Tryz.isAgg26
 z22:=Tryz.sizeOf26
 v22:=Tryz.zeroValue26
 t25:=Tryz.underlying134
 a25:=Tryz.isAgg134
 z25:=Tryz.sizeOf134
 v25:=Tryz.zeroValue134
 t39:=Tryz.underlying158
 a39:=Tryz.isAgg158
 z39:=Tryz.sizeOf158
 v39:=Tryz.zeroValue158
 t45:=Tryz.underlying217
 a45:=Tryz.isAgg217
 z45:=Tryz.sizeOf217
 v45:=Tryz.zeroValue217
 t46:=Tryz.underlying218
 a46:=Tryz.isAgg218
 z46:=Tryz.sizeOf218
 v46:=Tryz.zeroValue218
 t50:=Tryz.underlying140
 a50:=Tryz.isAgg140
 z50:=Tryz.sizeOf140
 v50:=Tryz.zeroValue140
 t53:=Tryz.underlying225
 a53:=Tryz.isAgg225
 z53:=Tryz.sizeOf225
 v53:=Tryz.zeroValue225
 t55:=Tryz.underlying227
 a55:=Tryz.isAgg227
 z55:=Tryz.sizeOf227
 v55:=Tryz.zeroValue227
 t66:=Tryz.underlying262
 a66:=Tryz.isAgg262
 z66:=Tryz.sizeOf262
 v66:=Tryz.zeroValue262
 t70:=Tryz.underlying112
 a70:=Tryz.isAgg112
 z70:=Tryz.sizeOf112
 v70:=Tryz.zeroValue112
 t76:=Tryz.underlying308
 a76:=Tryz.isAgg308
 z76:=Tryz.sizeOf308
 v76:=Tryz.zeroValue308
 t77:=Tryz.underlying309
 a77:=Tryz.isAgg309
 z77:=Tryz.sizeOf309
 v77:=Tryz.zeroValue309 }
def Tryz.cmpI_ren:Go.Shelf.Ren:=⟨fun | 5=>79 | 7=>122 | n=>n,fun | 22=>3 | 3=>3 | 4=>4 | n=>n,fun | n=>n⟩
theorem Tryz.cmpI:Go.Proofs.SlLaysC2.n5 Tryz.prog Tryz.cmpI_ren := {
 mixed:=by kernel_rfl
 f5:=⟨Tryz.f79.name,by decide,Tryz.func79.trans (congrArg some (by kernel_rfl))⟩
 f7:=⟨Tryz.f122.name,by decide,Tryz.func122.trans (congrArg some (by kernel_rfl))⟩
 t3:=Tryz.underlying3
 a3:=Tryz.isAgg3
 z3:=Tryz.sizeOf3
 v3:=Tryz.zeroValue3
 t4:=Tryz.underlying4
 a4:=Tryz.isAgg4
 z4:=Tryz.sizeOf4
 v4:=Tryz.zeroValue4
 t22:=Tryz.underlying3
 a22:=Tryz.isAgg3
 z22:=Tryz.sizeOf3
 v22:=Tryz.zeroValue3 }
def Tryz.containsB_ren:Go.Shelf.Ren:=⟨fun | 8=>174 | 6=>223 | n=>n,fun | 22=>26 | 23=>57 | 25=>253 | 4=>4 | 3=>3 | 0=>0 | n=>n,fun | n=>n⟩
theorem Tryz.containsB:Go.Proofs.SlLaysH0.n8 Tryz.prog Tryz.containsB_ren := {
 mixed:=by kernel_rfl
 f6:=⟨Tryz.f223.name,by decide,Tryz.func223.trans (congrArg some (by kernel_rfl))⟩
 f8:=⟨Tryz.f174.name,by decide,Tryz.func174.trans (congrArg some (by kernel_rfl))⟩
 t0:=Tryz.underlying0
 a0:=Tryz.isAgg0
 z0:=Tryz.sizeOf0
 v0:=Tryz.zeroValue0
 t3:=Tryz.underlying3
 a3:=Tryz.isAgg3
 z3:=Tryz.sizeOf3
 v3:=Tryz.zeroValue3
 t4:=Tryz.underlying4
 a4:=Tryz.isAgg4
 z4:=Tryz.sizeOf4
 v4:=Tryz.zeroValue4
 t22:=Tryz.underlying26
 a22:=Tryz.isAgg26
 z22:=Tryz.sizeOf26
 v22:=Tryz.zeroValue26
 t25:=Tryz.underlying253
 a25:=Tryz.isAgg253
 z25:=Tryz.sizeOf253
 v25:=Tryz.zeroValue253 }
def Tryz.cloneB_ren:Go.Shelf.Ren:=⟨fun | 41=>42 | n=>n,fun | 22=>26 | 23=>57 | 4=>4 | n=>n,fun | n=>n⟩
theorem Tryz.cloneB:Go.Proofs.SlLaysE0.n41 Tryz.prog Tryz.cloneB_ren := {
 mixed:=by kernel_rfl
 f41:=⟨Tryz.f42.name,by decide,Tryz.func42.trans (congrArg some (by kernel_rfl))⟩
 t4:=Tryz.underlying4
 a4:=Tryz.isAgg4
 z4:=Tryz.sizeOf4
 v4:=Tryz.zeroValue4
 t22:=Tryz.underlying26
 a22:=Tryz.isAgg26
 z22:=Tryz.sizeOf26
 v22:=Tryz.zeroValue26 }
def Tryz.cloneO_ren:Go.Shelf.Ren:=⟨fun | 41=>43 | n=>n,fun | 22=>24 | 23=>60 | 4=>4 | n=>n,fun | n=>n⟩
theorem Tryz.cloneO:Go.Proofs.SlLaysE0.n41 Tryz.prog Tryz.cloneO_ren := {
 mixed:=by kernel_rfl
 f41:=⟨Tryz.f43.name,by decide,Tryz.func43.trans (congrArg some (by kernel_rfl))⟩
 t4:=Tryz.underlying4
 a4:=Tryz.isAgg4
 z4:=Tryz.sizeOf4
 v4:=Tryz.zeroValue4
 t22:=Tryz.underlying24
 a22:=Tryz.isAgg24
 z22:=Tryz.sizeOf24
 v22:=Tryz.zeroValue24 }
def Tryz.cloneI_ren:Go.Shelf.Ren:=⟨fun | 41=>44 | n=>n,fun | 22=>58 | 23=>3 | 4=>4 | n=>n,fun | n=>n⟩
theorem Tryz.cloneI:Go.Proofs.SlLaysE0.n41 Tryz.prog Tryz.cloneI_ren := {
 mixed:=by kernel_rfl
 f41:=⟨Tryz.f44.name,by decide,Tryz.func44.trans (congrArg some (by kernel_rfl))⟩
 t4:=Tryz.underlying4
 a4:=Tryz.isAgg4
 z4:=Tryz.sizeOf4
 v4:=Tryz.zeroValue4
 t22:=Tryz.underlying58
 a22:=Tryz.isAgg58
 z22:=Tryz.sizeOf58
 v22:=Tryz.zeroValue58 }
end Go.Proofs
namespace Go.Proofs.YtcodpnbemdflcaaGreatDoor
open Go.RowKit
def chkE (r:Int) (l:List Blk):Int:=if Right r l then 0 else 1
theorem chkE_yes {r:Int} {l:List Blk} (h:Right r l):chkE r l=0:=if_pos h
theorem chkE_no {r:Int} {l:List Blk} (h : ¬ Right r l):chkE r l=1:=if_neg h
theorem freeWords_any (r:Int) (A:Option Addr) (n c:Nat) (l:List Blk) (w:World) (h:RdS w A n l) (hn:n≤1000) (hT:Tab w) :
  Calls Tryz.prog 120 #[.int .i64 r, .slice A n c] w fun e w'=>(Right r l∧MapOf w r l e w')∨(¬ Right r l∧NoWords w e w'):=by
 by_cases hr:3≤r∧r≤8
 ·exact freeWords_in r A n c l w hr h hn hT
 ·exact (freeWords_out r A n c w hr).mono fun e w' h => .inr ⟨fun q=>hr q.1,h⟩
set_option maxHeartbeats 1000000 in
theorem check_any (r:Int) (A:Option Addr) (n c:Nat) (l:List Blk) (w:World) (h:RdS w A n l) (hn:n≤1000) (hT:Tab w) :
  Calls Tryz.prog 76 #[.int .i64 r, .slice A n c] w (Tells w (.int .i64 (chkE r l))):=by
 have S:=freeWords_any r A n c l w h hn hT
 by_cases hR:Right r l
 ·rw [chkE_yes hR]
  have S2:Calls Tryz.prog 120 #[.int .i64 r, .slice A n c] w (MapOf w r l):=S.mono fun e w' h=>h.elim (fun h=>h.2) (fun h=>absurd hR h.1)
  clear S h
  go_enter Tryz.func76,Tryz.ntmps76
  go_wp2_with (go_at_call 120;refine S2.mono ?_;rintro e w1 ⟨g,h,m,rfl,_,_,_,_,b1⟩)
  go_ret
  exact ⟨rfl,b1⟩
 ·rw [chkE_no hR]
  have S2:Calls Tryz.prog 120 #[.int .i64 r, .slice A n c] w (NoWords w):=S.mono fun e w' h=>h.elim (fun h=>absurd h.1 hR) (fun h=>h.2)
  clear S h
  go_enter Tryz.func76,Tryz.ntmps76
  go_wp2_with (go_at_call 120;refine S2.mono ?_;rintro e w1 ⟨rfl,b1⟩)
  go_ret
  exact ⟨rfl,b1⟩
def mayTk (r:Int) (l:List Blk) (t:Int):Bool:=decide (Right r l) && (decide (0≤t) && decide (t≤r))
set_option maxHeartbeats 1000000 in
theorem mayTake_any (r:Int) (A:Option Addr) (n c:Nat) (l:List Blk) (t:Int) (w:World) (h:RdS w A n l) (hn:n≤1000) (hT:Tab w) :
  Calls Tryz.prog 124 #[.int .i64 r, .slice A n c, .int .i64 t] w (Tells w (.bool (mayTk r l t))):=by
 have S:=check_any r A n c l w h hn hT
 clear h
 unfold mayTk
 by_cases hR:Right r l
 ·rw [chkE_yes hR] at S
  rw [decide_eq_true hR,Bool.true_and]
  by_cases h0:0≤t
  ·rw [decide_eq_true h0,Bool.true_and]
   go_enter Tryz.func124,Tryz.ntmps124
   go_wp2_with (go_at_call 76;refine S.mono ?_;rintro e w1 ⟨rfl,b1⟩)
   go_ret
   exact ⟨rfl,b1⟩
  ·rw [decide_eq_false h0,Bool.false_and]
   go_enter Tryz.func124,Tryz.ntmps124
   go_wp2_with (go_at_call 76;refine S.mono ?_;rintro e w1 ⟨rfl,b1⟩)
   go_ret
   exact ⟨rfl,b1⟩
 ·rw [chkE_no hR] at S
  rw [decide_eq_false hR,Bool.false_and]
  go_enter Tryz.func124,Tryz.ntmps124
  go_wp2_with (go_at_call 76;refine S.mono ?_;rintro e w1 ⟨rfl,b1⟩)
  go_ret
  exact ⟨rfl,b1⟩
def roomB (l:List Blk) (t:Int):Bool:=l.any fun b=>decide (t≤b.2)
theorem pred_room (t:Int) (B:Nat) (w:World) (hB:B < w.heap.size) (hcell:w.cell? ⟨B,0,none⟩=some (.int .i64 t)) :
  PredBelow Tryz.prog 175 #[.pointer (some ⟨B,0,none⟩)] (fun x:Blk => .agg (enc2 x).toArray) (fun x=>decide (t≤x.2)) w:=fun W x hb=>by
 have hc:W.cell? ⟨B,0,none⟩=some (.int .i64 t):=(hb.cell (p:=⟨B,0,none⟩) hB).trans hcell
 have hBW:B < W.heap.size:=Nat.lt_of_lt_of_le hB hb.size
 have hne:B≠W.heap.size:=by omega
 show Calls Tryz.prog 175 #[.agg #[.int .i64 x.1, .int .i64 x.2], .pointer (some ⟨B,0,none⟩)] W _
 go_enter Tryz.func175,Tryz.ntmps175
 go_wp2
 all_goals (go_ret;exact ⟨by simp_all,hb.alloc hb.size _⟩)
set_option maxHeartbeats 400000 in
theorem index_none (A:Option Addr) (c:Nat) (v:Value) (w:World) :
  Calls Tryz.prog 223 #[.slice A 0 c,v] w fun e w'=>e = .returned (.int .i64 (-1))∧w=w':=by
 go_enter Tryz.func223,Tryz.ntmps223
 go_wp2
 go_loop [8] (fun i=>i = .int .i64 0) (fun _=>1)
 case atStart=>rfl
 case round =>
  subst hrel
  go_wp2
  go_ret
  exact ⟨rfl,rfl⟩
set_option maxHeartbeats 1000000 in
theorem hasRoom_any (A:Option Addr) (n c:Nat) (l:List Blk) (t:Int) (w:World) (h:RdS w A n l) (hn:n≤1000) :
  Calls Tryz.prog 125 #[.slice A n c, .int .i64 t] w (Tells w (.bool (roomB l t))):=by
 have hlen:=h.len
 by_cases h0:n=0
 ·subst h0
  obtain rfl:l = []:=List.eq_nil_of_length_eq_zero hlen
  have S:=index_none A c
  go_enter Tryz.func125,Tryz.ntmps125
  go_wp2_with (first | (go_at_call 223;refine (S _ _).mono ?_;rintro e w1 ⟨rfl,rfl⟩) | go_in)
  go_ret
  exact ⟨rfl,(Below.refl _ _).alloc (Nat.le_refl _) _⟩
 ·obtain ⟨b,off,rfl,hb,hc⟩:=h.at_ (by omega)
  have eg : ∀ args w,(callFunc 175 args).run Tryz.prog w = .ok (.enter 175 args) w:=enters_of Tryz.func175 (by kernel_rfl) rfl
  have hcon:=AnyQ.slices_ContainsFunc Tryz.containsB 2 Tryz.isAgg57 Tryz.sizeOf57 enc2 (fun _=>rfl) (fun x=>decide (t≤x.2)) 175 #[.pointer (some ⟨w.heap.size,0,none⟩)] eg b off n c l (w.alloc (.cells #[.int .i64 t] 3))
   (pred_room t w.heap.size _ (by simp) (by simp)) (by omega) (by omega) (by simp;omega) (fun j hj i v hi=>by
    refine Lib.cell?_alloc_some _ ?_
    have h1:=hc j _ (List.getElem?_eq_getElem hj)
    rw [getElem!_pos l j hj] at hi
    match i,hi with
    | 0,hi=>simp [enc2] at hi;rw [← hi];exact h1.1
    | 1,hi=>simp [enc2] at hi;rw [← hi];exact h1.2
    | i+2,hi=>simp [enc2] at hi)
  rw [List.take_of_length_le (by omega)] at hcon
  change Calls Tryz.prog 174 _ _ _ at hcon
  unfold roomB
  generalize l.any (fun x=>decide (t≤x.2))=q at hcon ⊢
  clear hc h
  go_enter Tryz.func125,Tryz.ntmps125
  go_wp2_with (go_at_call 174;refine hcon.mono ?_;rintro e w' ⟨rfl,hb'⟩)
  go_ret
  exact ⟨rfl,((Below.refl _ w).alloc (Nat.le_refl _) _).trans (hb'.mono (by simp))⟩
set_option maxHeartbeats 1000000 in
theorem room_any (r:Int) (A:Option Addr) (n c:Nat) (l:List Blk) (t:Int) (w:World) (h:RdS w A n l) (hn:n≤1000) (hT:Tab w) :
  Calls Tryz.prog 84 #[.int .i64 r, .slice A n c, .int .i64 t] w (Tells w (.bool (mayTk r l t && roomB l t))):=by
 have S1:=mayTake_any r A n c l t w h hn hT
 have S2:=fun (W:World) (b:Below w.heap.size w W)=>hasRoom_any A n c l t W (h.below b) hn
 clear h
 cases hm:mayTk r l t with
 | false =>
  rw [hm] at S1
  rw [Bool.false_and]
  go_enter Tryz.func84,Tryz.ntmps84
  go_wp2_with (go_at_call 124;refine S1.mono ?_;rintro e w1 ⟨rfl,b1⟩)
  go_ret
  exact ⟨rfl,b1⟩
 | true =>
  rw [hm] at S1
  rw [Bool.true_and]
  go_enter Tryz.func84,Tryz.ntmps84
  go_wp2_with (first | (go_at_call 124;refine S1.mono ?_;rintro e w1 ⟨rfl,b1⟩) | (go_at_call 125;refine (S2 _ b1).mono ?_;rintro e w2 ⟨rfl,b2⟩))
  go_ret
  exact ⟨rfl,b1.trans (b2.mono b1.size)⟩
def GivesL (w:World) (l:List Blk) (er:Int) (e:Ending) (w':World):Prop := ∃ v,e = .returned (.tuple #[v, .int .i64 er])∧OwnB 57 w' w.heap.size v l∧Below w.heap.size w w'
def allL (r:Int):List Blk:=if 3≤r∧r≤8 then [(0,r)] else []
def allE (r:Int):Int:=if 3≤r∧r≤8 then 0 else 1
set_option maxHeartbeats 1000000 in
theorem all_any (r:Int) (w:World):Calls Tryz.prog 15 #[.int .i64 r] w (GivesL w (allL r) (allE r)):=by
 have S:=fun W=>isRegion_any r W
 unfold allL allE
 by_cases hr:3≤r∧r≤8
 ·rw [decide_eq_true hr] at S
  rw [if_pos hr,if_pos hr]
  go_enter Tryz.func15,Tryz.ntmps15
  go_wp2_with (go_at_call 31;refine (S _).mono ?_;rintro e w1 ⟨rfl,rfl⟩)
  go_ret2
  exact ⟨_,rfl,OwnB.one _ (0,r) _ rfl (Nat.le_refl _),(Below.refl _ _).alloc (Nat.le_refl _) _⟩
 ·rw [decide_eq_false hr] at S
  rw [if_neg hr,if_neg hr]
  go_enter Tryz.func15,Tryz.ntmps15
  go_wp2_with (go_at_call 31;refine (S _).mono ?_;rintro e w1 ⟨rfl,rfl⟩)
  go_ret2
  exact ⟨_,rfl,OwnB.nil,Below.refl _ _⟩
end Go.Proofs.YtcodpnbemdflcaaGreatDoor
namespace Go.Proofs.YtcodpnbemdflcaaGreatDoor
open Go.RowKit
theorem Tryz.infoBlk2:(Tryz.prog.info? 57).map (fun i=>(i.zero,i.size,i.bytes))=some (some (.agg #[.int .i64 0, .int .i64 0]),2,16):=by kernel_rfl
theorem mixedP:Tryz.prog.follows .mixedOrders=true:=by kernel_rfl
def SameRel (w:World) (l m:List Blk) (i:Value) (wr:World):Prop := ∃ k:Nat,k≤l.length∧i = .int .i64 (k:Int)∧l.take k=m.take k∧Grew w wr
set_option maxHeartbeats 1000000 in
theorem refSame_any (A A2:Option Addr) (n c n2 c2:Nat) (l m:List Blk) (w:World) (h:RdS w A n l) (h2:RdS w A2 n2 m) (hn:n≤1000) :
  Calls Tryz.prog 29 #[.slice A n c, .slice A2 n2 c2] w (Says w (.bool (decide (l=m)))):=by
 have hlen:=h.len
 have hlen2:=h2.len
 by_cases hnn:n=n2
 ·subst hnn
  have HR:=Lib.hid h
  have HR2:=Lib.hid h2
  have mixed:=mixedP
  have hm:=noGuard
  clear h h2
  go_enter Tryz.func29,Tryz.ntmps29
  go_wp2
  go_loopw [5] (SameRel w l m) (fun i _=>n - (intOf i).toNat)
  case atStart=>exact ⟨0,Nat.zero_le _,rfl,by simp,Grew.refl _⟩
  case round =>
   obtain ⟨k,hk,rfl,hsm,gr⟩:=hrel
   by_cases hlt:k < n
   ·obtain ⟨b',off,⟨x0,x1⟩,rfl,hbl,hx,hc0,hc1⟩:=HR.out.cell hlt
    obtain ⟨b2,off2,⟨y0,y1⟩,rfl,hbl2,hy,hd0,hd1⟩:=HR2.out.cell hlt
    have hgr:=gr.below
    have z0:=cell_grown (a:=⟨b',off+k*2,none⟩) (Nat.lt_of_lt_of_le hbl hgr.size) ((hgr.cell (p:=⟨b',off+k*2,none⟩) hbl).trans hc0)
    have z1:=cell_grown (a:=⟨b',off+k*2+1,none⟩) (Nat.lt_of_lt_of_le hbl hgr.size) ((hgr.cell (p:=⟨b',off+k*2+1,none⟩) hbl).trans hc1)
    have v0:=cell_grown (a:=⟨b2,off2+k*2,none⟩) (Nat.lt_of_lt_of_le hbl2 hgr.size) ((hgr.cell (p:=⟨b2,off2+k*2,none⟩) hbl2).trans hd0)
    have v1:=cell_grown (a:=⟨b2,off2+k*2+1,none⟩) (Nat.lt_of_lt_of_le hbl2 hgr.size) ((hgr.cell (p:=⟨b2,off2+k*2+1,none⟩) hbl2).trans hd1)
    simp only at v0 v1 z0 z1
    have q:=run_neq_blk x0 x1 y0 y1
    have hki:(k:Int) < (n:Int):=by omega
    have Hx:=Lib.hid hx
    have Hy:=Lib.hid hy
    clear hx hy hc0 hc1 hd0 hd1
    cases he:sameB (x0,x1) (y0,y1) with
    | true =>
     rw [he] at q
     have heq:=(sameB_iff _ _).1 he
     have Hsm:=Lib.hid (show l.take (k+1)=m.take (k+1) by rw [take_snocB Hx.out,take_snocB Hy.out,hsm,heq])
     clear hsm heq
     go_wp2_with fail
     refine wp_region_quiet_grown mixed (by kernel_rfl) ?_
     repeat (go_big_quiet_step (fail))
     refine wpQuiet_nil ?_
     intro _ hw'
     obtain ⟨⟨nq,osq⟩,hw''⟩:=hw'
     subst hw''
     have G4:=(Grew.refl wr).grow nq osq
     generalize Go.Sort.grow (wr.drewN nq) osq=w4 at G4 ⊢
     clear z0 z1 v0 v1 q
     go_wp2
     go_roundw
     case rel=>exact ⟨k+1,by omega,by go_num,Hsm.out,gr.trans G4⟩
     case measure=>simp [intOf];omega
    | false =>
     rw [he] at q
     have hne:l≠m:=fun e=>by
      have h1:=Hx.out
      rw [e,Hy.out] at h1
      rw [(sameB_iff _ _).2 (Option.some.inj h1).symm] at he
      cases he
     clear hsm
     go_wp2_with fail
     refine wp_region_quiet_grown mixed (by kernel_rfl) ?_
     repeat (go_big_quiet_step (fail))
     refine wpQuiet_nil ?_
     intro _ hw'
     obtain ⟨⟨nq,osq⟩,hw''⟩:=hw'
     subst hw''
     have G4:=(Grew.refl wr).grow nq osq
     generalize Go.Sort.grow (wr.drewN nq) osq=w4 at G4 ⊢
     clear z0 z1 v0 v1 q
     go_wp2
     go_ret
     exact ⟨by rw [decide_eq_false hne];rfl,gr.trans G4⟩
   ·obtain rfl:k=n:=by omega
    have heq:l=m:=by rw [List.take_of_length_le (by omega),List.take_of_length_le (by omega)] at hsm;exact hsm
    have Heq:=Lib.hid heq
    clear hsm heq
    go_wp2
    go_ret
    exact ⟨by rw [decide_eq_true Heq.out];rfl,gr⟩
 ·have hne:l≠m:=fun e=>hnn (by rw [← hlen, ← hlen2,e])
  rw [decide_eq_false hne]
  have t1:((n:Int) == (n2:Int))=false:=by simp;omega
  clear h h2
  go_enter Tryz.func29,Tryz.ntmps29
  go_wp2
  go_ret
  exact ⟨rfl,Grew.refl _⟩
def GivesB1 (w:World) (l:List Blk) (e:Ending) (w':World):Prop := ∃ v,e = .returned v∧OwnB 57 w' w.heap.size v l∧Below w.heap.size w w'
end Go.Proofs.YtcodpnbemdflcaaGreatDoor

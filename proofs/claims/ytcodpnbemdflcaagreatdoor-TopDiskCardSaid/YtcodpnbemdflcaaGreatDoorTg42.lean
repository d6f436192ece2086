/-
  Package redo: what Open does with the disk (its function literal): a contract over whatever load tells, wherever the ring begins. Written ahead for stage 9.
  Package redo: Open, at a part of a disk that has not stopped, wherever the ring begins: a contract over whatever load tells. Written ahead for stage 9.
  Plain mathematics of a log of 64 sectors on a disk: what lies on it behind appends, flushes, a crash. No program, no condition.
  Plain mathematics of a disk with a log on it that lost nothing: behind Open, Append, Trim, Force and a crash with nothing dirty. Written ahead for stage 9.
-/
import Derived.Test.YtcodpnbemdflcaaGreatDoorTg40
import Derived.Test.YtcodpnbemdflcaaGreatDoorTg41
import Derived.Test.YtcodpnbemdflcaaGreatDoorTg38
import Derived.Test.YtcodpnbemdflcaaGreatDoorTg39
import Derived.Test.YtcodpnbemdflcaaGreatDoorTg4
namespace Go.Proofs.YtcodpnbemdflcaaGreatDoor
open Go.RowKit
def LdG (ok:List (List UInt8)→Prop) (w:World) (g p fr se A F st:Nat) (e:Ending) (w':World):Prop :=
 ∃ (T:List (List UInt8)) (vt vs:Value),ok T∧T.length≤1000∧e = .returned vt∧OwnV 9 w' w.heap.size vt (svs T)∧LAt w' g p fr se A F st vs∧OwnV 3 w' w.heap.size vs (nts (szs T T.length))∧w.grownBy w' (some g)
def Op1G (ok:List (List UInt8)→Prop) (w:World) (g p q r n fr se A F st xb:Nat) (S:Dk) (w':World):Prop :=
 ∃ (T:List (List UInt8)) (vt vs:Value),ok T∧T.length≤1000∧Whole w' xb 98 [vt]∧OwnV 9 w' w.heap.size vt (svs T)∧LAt w' g p fr se (A+1) F st vs∧OwnV 3 w' w.heap.size vs (nts (szs T T.length)) ∧
  DAt w' p q r n (settleS S fr se (A+1) F st T.length)∧Oth (fun k=>k=g∨k=xb∨ds p q r k) w w'
set_option maxRecDepth 20000 in
set_option maxHeartbeats 2000000 in
theorem open1_all {ok:List (List UInt8)→Prop} {w:World} {g p q r n fr se A F ag fi st0 st lb xb:Nat} {v0:Value} {S:Dk} (hb:Whole w lb 77 [.pointer (some ⟨g,0,none⟩)]) (hx:Whole w xb 98 [v0]) (hL:LAt w g p fr se ag fi st0 (.slice none 0 0)) (hd:DAt w p q r n S) (hg:Goes S)
  (hld:Calls Tryz.prog 67 #[.pointer (some ⟨g,0,none⟩)] w (LdG ok w g p fr se A F st)) (hgx : ¬ ds p q r g) (hxx : ¬ ds p q r xb) (hfr:fr < n) (hse:se≤4096) (hA:A≤1000000) (hF:F≤1000000) (hst1:st≤1024) :
  Calls Tryz.prog 66 #[.pointer (some ⟨lb,0,none⟩), .pointer (some ⟨xb,0,none⟩)] w fun e w'=>e = .returned (.tuple #[])∧Op1G ok w g p q r n fr se A F st xb S w':=by
 have b0:=hb.cell 0
 simp only [List.getElem?_cons_zero] at b0
 have hxg:xb≠g:=hx.ne hL (by decide)
 have hlg:lb≠g:=hb.ne hL (by decide)
 have hlx:lb≠xb:=hb.ne hx (by decide)
 have hgl:=hL.lt
 have hxl:=hx.lt
 have HB:=Lib.hid hb
 have HX:=Lib.hid hx
 have HD:=Lib.hid hd
 have HG:=Lib.hid hg
 have HLD:=Lib.hid hld
 have HGX:=Lib.hid (And.intro hgx hxx)
 clear hb hx hL hd hg hld hgx hxx
 go_enter Tryz.func66,Tryz.ntmps66
 go_wp2_with fail
 refine HLD.out.mono ?_
 rintro e w1 ⟨T,vt,vs,hok,hTl,rfl,hT,hL1,hS,hgr⟩
 have hx1:=HX.out.grown hgr hxg
 have hb1:=HB.out.grown hgr hlg
 have hd1:=HD.out.grownBy hgr HGX.out.1
 have x0:=hx1.cell 0
 have f0:=hx1.free 0
 simp only [List.getElem?_cons_zero] at x0
 obtain ⟨At,ct,rfl⟩:=slice_own hT (n:=T.length) (by rw [svs_length])
 obtain ⟨As,cs,rfl⟩:=slice_own hS (n:=T.length) (szs_all T)
 -- the texts are stored
 have hs2:=grown_set w1 xb 0 (.slice At T.length ct)
 have hx2:Whole (w1.setCell ⟨xb,0,none⟩ (.slice At T.length ct)) xb 98 [.slice At T.length ct]:=hx1.set 0 _
 have hb2:=hb1.grown hs2 hlx
 have hT2:=hT.grown hs2 (fun e=>by have:=(hT.lt xb e).1;omega)
 have hS2:=hS.grown hs2 (fun e=>by have:=(hS.lt xb e).1;omega)
 have hL2:LAt (w1.setCell ⟨xb,0,none⟩ (.slice At T.length ct)) g p fr se A F st (.slice As T.length cs):=hL1.keep (hs2.block g hL1.lt (by simpa using hxg.symm))
 have hd2:=hd1.grownBy hs2 HGX.out.2
 have b2:=hb2.cell 0
 have c3:=hL2.c3
 have f3:=hL2.free 3
 simp only [List.getElem?_cons_zero] at b2
 -- the age
 have hs3:=grown_set (w1.setCell ⟨xb,0,none⟩ (.slice At T.length ct)) g 3 (.int .i64 ((A+1:Nat):Int))
 have hx3:=hx2.grown hs3 hxg
 have hb3:=hb2.grown hs3 hlg
 have hT3:=hT2.grown hs3 (fun e=>by have:=(hT.lt g e).1;omega)
 have hS3:=hS2.grown hs3 (fun e=>by have:=(hS.lt g e).1;omega)
 have hL3:=hL2.set3 (A+1)
 have hd3:=hd2.grownBy hs3 HGX.out.1
 have b3:=hb3.cell 0
 simp only [List.getElem?_cons_zero] at b3
 have ho3:Oth (fun k=>k=g∨k=xb∨ds p q r k) w ((w1.setCell ⟨xb,0,none⟩ (.slice At T.length ct)).setCell ⟨g,3,none⟩ (.int .i64 ((A+1:Nat):Int))) :=
  ((Oth.of_grown hgr (.inl rfl)).trans (Oth.of_grown hs2 (.inr (.inl rfl)))).trans (Oth.of_grown hs3 (.inl rfl))
 have hst:=settle_any hL3 hd3 HG.out HGX.out.1 hfr hse (by omega) (by omega) (by omega) (by omega)
 have hw3:(((A+1:Nat)):Int)=(A:Int)+1:=by omega
 rw [hw3] at hx3 hT3 hS3 hL3 b3 ho3 hst
 have HST:=Lib.hid hst
 have H3:=Lib.hid (And.intro hx3 (And.intro hT3 (And.intro hS3 (And.intro hL3 ho3))))
 have Hok:=Lib.hid (And.intro hok hTl)
 clear hw3 hst hx3 hb3 hT3 hS3 hL3 hd3 ho3 hs3 hs2 hx2 hb2 hT2 hS2 hL2 hd2 hd1 hx1 hb1 hT hS hL1 hgr hok
 dsimp only
 go_wp2_with fail
 refine HST.out.mono ?_
 rintro e w5 ⟨rfl,hD5,hO5⟩
 obtain ⟨hx3,hT3,hS3,hL3,ho3⟩:=H3.out
 have hdx : ∀ k,ds p q r k→k < w.heap.size:=fun k hk=>HD.out.lt hk
 have HF:=Lib.hid (And.intro (hx3.keep (hO5.block xb hx3.lt HGX.out.2)) (And.intro (hT3.oth hO5 hdx) (And.intro (hL3.oth hO5 HGX.out.1) (And.intro (hS3.oth hO5 hdx) (And.intro hD5 (ho3.trans (hO5.mono fun k hk => .inr (.inr hk))))))))
 clear hx3 hT3 hS3 hL3 ho3 hD5 hO5 HST
 dsimp only
 go_wp2
 go_end0
 exact ⟨rfl,T,_,_,Hok.out.1,Hok.out.2,HF.out.1,HF.out.2.1,HF.out.2.2.1,HF.out.2.2.2.1,HF.out.2.2.2.2.1,HF.out.2.2.2.2.2⟩
end Go.Proofs.YtcodpnbemdflcaaGreatDoor
namespace Go.Proofs.YtcodpnbemdflcaaGreatDoor
open Go.RowKit
def OpG (ok:List (List UInt8)→Prop) (w:World) (p q r n fr se A F st:Nat) (S:Dk) (e:Ending) (w':World):Prop :=
 ∃ (T:List (List UInt8)) (g:Nat) (vt vs:Value),ok T∧T.length≤1000∧e = .returned (.tuple #[.pointer (some ⟨g,0,none⟩), .int .i64 (F:Int),vt, .int .i64 0])∧w.heap.size≤g∧OwnV 9 w' w.heap.size vt (svs T) ∧
  LAt w' g p fr se (A+1) F st vs∧OwnV 3 w' w.heap.size vs (nts (szs T T.length))∧DAt w' p q r n (settleS S fr se (A+1) F st T.length)∧Oth (ds p q r) w w'
set_option maxRecDepth 20000 in
set_option maxHeartbeats 2000000 in
theorem open_all {ok:List (List UInt8)→Prop} {w:World} {p q r n fr se A F st:Nat} {S:Dk} (hd:DAt w p q r n S) (hg:Goes S) (h1:8≤se) (h2:se≤1024) (h3:fr+se≤n) (hA:A≤1000000) (hF:F≤1000000) (hst1:st≤1024)
  (hld : ∀ W g,LAt W g p fr se 0 0 0 (.slice none 0 0)→DAt W p q r n S→Calls Tryz.prog 67 #[.pointer (some ⟨g,0,none⟩)] W (LdG ok W g p fr se A F st)) :
  Calls Tryz.prog 35 #[.pointer (some ⟨p,0,none⟩), .int .i64 (fr:Int), .int .i64 (se:Int)] w (OpG ok w p q r n fr se A F st S):=by
 have hsz:=dsize_any hd
 have hn:=hd.most
 have d1 : ¬ ((se:Int) < 8):=by omega
 have d2 : ¬ ((1024:Int) < (se:Int)):=by omega
 have d3 : ¬ ((fr:Int) < 0):=by omega
 have d4 : ¬ ((n:Int) - (se:Int) < (fr:Int)):=by omega
 have HD:=Lib.hid hd
 have HG:=Lib.hid hg
 have HLD:=Lib.hid hld
 have hmf : ∀ (fn:Fn) (first cap:Array Value) (w:World),(Instr.makeFunc fn first cap).run Tryz.prog w = .ok (.func fn first cap) w:=fun _ _ _ _=>rfl
 clear hd hg hld
 go_enter Tryz.func35,Tryz.ntmps35
 go_wp2_with (go_at_call 18;refine hsz.mono ?_;rintro e w1 ⟨rfl,hw1⟩;subst hw1)
 have HN:=Lib.hid hn
 clear hsz d1 d2 d3 d4 hmf hn
 have kL:=Whole.new w1 #[.pointer (some ⟨p,0,none⟩), .int .i64 (fr:Int), .int .i64 (se:Int), .int .i64 0, .int .i64 0, .int .i64 0, .slice none 0 0] 120
 have hd1:=HD.out.alloc (.cells #[.pointer (some ⟨p,0,none⟩), .int .i64 (fr:Int), .int .i64 (se:Int), .int .i64 0, .int .i64 0, .int .i64 0, .slice none 0 0] 120)
 have hB1:Below w1.heap.size w1 (w1.alloc (.cells #[.pointer (some ⟨p,0,none⟩), .int .i64 (fr:Int), .int .i64 (se:Int), .int .i64 0, .int .i64 0, .int .i64 0, .slice none 0 0] 120)):=(Below.refl _ _).alloc (Nat.le_refl _) _
 have hs1:(w1.alloc (.cells #[.pointer (some ⟨p,0,none⟩), .int .i64 (fr:Int), .int .i64 (se:Int), .int .i64 0, .int .i64 0, .int .i64 0, .slice none 0 0] 120)).heap.size=w1.heap.size+1:=by simp
 generalize w1.alloc (.cells #[.pointer (some ⟨p,0,none⟩), .int .i64 (fr:Int), .int .i64 (se:Int), .int .i64 0, .int .i64 0, .int .i64 0, .slice none 0 0] 120)=W1 at kL hd1 hB1 hs1 ⊢
 have kB:=Whole.new W1 #[.pointer (some ⟨w1.heap.size,0,none⟩)] 77
 have kL:=kL.alloc (.cells #[.pointer (some ⟨w1.heap.size,0,none⟩)] 77)
 have hd2:=hd1.alloc (.cells #[.pointer (some ⟨w1.heap.size,0,none⟩)] 77)
 have hB2:=hB1.alloc hB1.size (.cells #[.pointer (some ⟨w1.heap.size,0,none⟩)] 77)
 have hs2:(W1.alloc (.cells #[.pointer (some ⟨w1.heap.size,0,none⟩)] 77)).heap.size=w1.heap.size+1+1:=by simp [hs1]
 rw [hs1] at kB
 generalize W1.alloc (.cells #[.pointer (some ⟨w1.heap.size,0,none⟩)] 77)=W2 at kL kB hd2 hB2 hs2 ⊢
 have kX:=Whole.new W2 #[.slice none 0 0] 98
 have kB:=kB.alloc (.cells #[.slice none 0 0] 98)
 have kL:=kL.alloc (.cells #[.slice none 0 0] 98)
 have hd3:=hd2.alloc (.cells #[.slice none 0 0] 98)
 have hB3:=hB2.alloc hB2.size (.cells #[.slice none 0 0] 98)
 have hs3:(W2.alloc (.cells #[.slice none 0 0] 98)).heap.size=w1.heap.size+1+1+1:=by simp [hs2]
 rw [hs2] at kX
 generalize W2.alloc (.cells #[.slice none 0 0] 98)=W3 at kX kL kB hd3 hB3 hs3 ⊢
 have kE:=Whole.new W3 #[.int .i64 0] 29
 have kX:=kX.alloc (.cells #[.int .i64 0] 29)
 have kB:=kB.alloc (.cells #[.int .i64 0] 29)
 have kL:=kL.alloc (.cells #[.int .i64 0] 29)
 have hd4:=hd3.alloc (.cells #[.int .i64 0] 29)
 have hB4:=hB3.alloc hB3.size (.cells #[.int .i64 0] 29)
 have hs4:(W3.alloc (.cells #[.int .i64 0] 29)).heap.size=w1.heap.size+1+1+1+1:=by simp [hs3]
 have hdl : ∀ k,ds p q r k→k < w1.heap.size:=fun k hk=>HD.out.lt hk
 have hgx : ¬ ds p q r w1.heap.size:=fun h=>by have:=hdl _ h;omega
 have hxx : ¬ ds p q r (w1.heap.size+1+1):=fun h=>by have:=hdl _ h;omega
 have hc:=open1_all (ok:=ok) kB kX (show LAt _ w1.heap.size p fr se 0 0 0 (.slice none 0 0) from kL) hd4 HG.out (HLD.out _ _ (show LAt _ w1.heap.size p fr se 0 0 0 (.slice none 0 0) from kL) hd4) hgx hxx (by omega) (by omega) hA hF hst1
 have hQ : ∀ w',Op1G ok (W3.alloc (.cells #[.int .i64 0] 29)) w1.heap.size p q r n fr se A F st (w1.heap.size+1+1) S w'→Whole w' W3.heap.size 29 [.int .i64 0]:=fun w' hq=>by
  obtain ⟨_,_,_,_,_,_,_,_,_,_,ho⟩:=hq
  refine kE.keep (ho.block _ kE.lt fun h => ?_)
  rcases h with h | h | h
  ·omega
  ·omega
  ·have:=hdl _ h;omega
 have hca:=caught_any (f:=66) (Go.Proofs.enters_of Tryz.func66 (by kernel_rfl) rfl) hc hQ
 have HCA:=Lib.hid hca
 have HB4:=Lib.hid (And.intro hB4 (And.intro kB (And.intro hs4 hs3)))
 have Hdl:=Lib.hid hdl
 clear hca hc hQ kE kX kB kL hd1 hd2 hd3 hd4 hB1 hB2 hB3 hB4 hs1 hs2 hs3 hs4 hgx hxx hdl
 refine HCA.out.mono ?_
 rintro e w5 ⟨rfl,w6,⟨T,vt,vs,hok,hTl,hx6,hT6,hL6,hS6,hD6,hO6⟩,rfl⟩
 obtain ⟨hB4,kB,hs4,hs3⟩:=HB4.out
 have hdl:=Hdl.out
 have hdl4 : ∀ k,(k=w1.heap.size∨k=w1.heap.size+1+1∨ds p q r k)→k < w1.heap.size+1+1+1:=fun k hk=>by
  rcases hk with h | h | h
  ·omega
  ·omega
  ·have:=hdl k h;omega
 have hb6:Whole w6 (w1.heap.size+1) 77 [.pointer (some ⟨w1.heap.size,0,none⟩)]:=kB.keep (hO6.block _ kB.lt fun h=>by
  rcases h with h | h | h
  ·omega
  ·omega
  ·have:=hdl _ h;omega)
 have hgs:=grown_set w6 W3.heap.size 0 (.int .i64 0)
 have hb7:=hb6.grown hgs (by omega)
 have hx7:=hx6.grown hgs (by omega)
 have hL7:=hL6.keep (hgs.block w1.heap.size hL6.lt (fun h=>by injection h with h;omega))
 have hT7:=hT6.grown hgs (fun e=>by have:=(hT6.lt _ e).1;omega)
 have hS7:=hS6.grown hgs (fun e=>by have:=(hS6.lt _ e).1;omega)
 have hD7:=hD6.grownBy hgs (fun h=>by have:=hdl _ h;omega)
 obtain ⟨At,ct,rfl⟩:=slice_own hT7 (n:=T.length) (by rw [svs_length])
 obtain ⟨As,cs,rfl⟩:=slice_own hS7 (n:=T.length) (szs_all T)
 have hO7:Oth (ds p q r) w1 (w6.setCell ⟨W3.heap.size,0,none⟩ (.int .i64 0)).drew:=by
  have a1:Oth (fun k=>w1.heap.size≤k∨ds p q r k) w1 (w6.setCell ⟨W3.heap.size,0,none⟩ (.int .i64 0)) :=
   ((Oth.of_below hB4 _).trans (hO6.mono fun k hk=>by
    rcases hk with h | h | h
    ·exact .inl (by omega)
    ·exact .inl (by omega)
    ·exact .inr h)).trans (Oth.of_grown hgs (.inl (by omega)))
  exact ⟨a1.os,a1.tape,a1.output,a1.size,fun k hk hx=>a1.block k hk (fun h=>by
   rcases h with h | h
   ·omega
   ·exact hx h)⟩
 have HF:=Lib.hid (And.intro hT7.drew (And.intro hL7.drew (And.intro hS7.drew (And.intro hD7.drew hO7))))
 have b0:(w6.setCell ⟨W3.heap.size,0,none⟩ (.int .i64 0)).drew.cell? ⟨w1.heap.size+1,0,none⟩=some (.pointer (some ⟨w1.heap.size,0,none⟩)):=hb7.cell 0
 have x0:(w6.setCell ⟨W3.heap.size,0,none⟩ (.int .i64 0)).drew.cell? ⟨w1.heap.size+1+1,0,none⟩=some (.slice At T.length ct):=hx7.cell 0
 have c4:=hL7.drew.c4
 have Hok:=Lib.hid (And.intro hok hTl)
 have Hs4:=Lib.hid hs4
 clear hO7 hD7 hS7 hT7 hL7 hx7 hb7 hgs hb6 hdl4 hdl hB4 kB hs4 hs3 hD6 hO6 hS6 hT6 hL6 hx6 hok HB4
 generalize w6.setCell ⟨W3.heap.size,0,none⟩ (.int .i64 0)=W7 at b0 x0 c4 HF ⊢
 dsimp only
 go_wp2
 go_region
 all_goals (
  go_wp2
  refine bodyPost_ret (results_tmp4 rfl _ _ _) rfl ?_
  exact ⟨T,w1.heap.size,_,_,Hok.out.1,Hok.out.2,rfl,Nat.le_refl _,HF.out.1.mono (by have:=Hs4.out;omega),HF.out.2.1,HF.out.2.2.1.mono (by have:=Hs4.out;omega),HF.out.2.2.2.1,HF.out.2.2.2.2⟩)
end Go.Proofs.YtcodpnbemdflcaaGreatDoor
namespace Go.Proofs.YtcodpnbemdflcaaGreatDoor
theorem off_snoc (T:List (List UInt8)) (t:List UInt8):off (T ++ [t]) (T ++ [t]).length=off T T.length+np t.length:=by
 unfold off
 rw [List.take_of_length_le (Nat.le_refl _),List.take_of_length_le (Nat.le_refl _)]
 simp
theorem off_pre (T:List (List UInt8)) (t:List UInt8) {m:Nat} (h:m≤T.length):off (T ++ [t]) m=off T m:=by
 unfold off
 rw [List.take_append_of_le_length h]
section
variable {T:List (List UInt8)} {F:Nat} {now:Nat→List UInt8}
end
theorem crS_goes (S:Dk) (keep:List Bool) (ks:List Nat):Goes (crS S keep ks):=⟨rfl,rfl⟩
end Go.Proofs.YtcodpnbemdflcaaGreatDoor
namespace Go.Proofs.YtcodpnbemdflcaaGreatDoor
open Go.RowKit
theorem ring_inj {n st x y:Nat} (hst:st < n) (hx:x < n) (hy:y < n) (h:(st+x) % n=(st+y) % n):x=y:=by
 have e : ∀ z,z < n→(st+z) % n=if st+z < n then st+z else st+z - n:=fun z hz=>by
  split
  ·exact Nat.mod_eq_of_lt ‹_›
  ·rw [Nat.mod_eq_sub_mod (by omega),Nat.mod_eq_of_lt (by omega)]
 rw [e x hx,e y hy] at h
 split at h <;> split at h <;> omega
theorem ring_off {n st q:Nat} (hst:st < n) (hq:q < n) : ∃ x,x < n∧(st+x) % n=q:=by
 by_cases h:st≤q
 ·exact ⟨q - st,by omega,by rw [show st+(q - st)=q by omega,Nat.mod_eq_of_lt hq]⟩
 ·exact ⟨q+n - st,by omega,by rw [show st+(q+n - st)=q+n by omega,Nat.add_mod_right,Nat.mod_eq_of_lt hq]⟩
def CwG (C:Nat→Ct) (n st U:Nat) (c:Nat→Ct):Nat→Nat→Ct
 | 0=>C
 | j+1=>fun k=>if k=(st+(U+j)) % n+1 then c j else CwG C n st U c j k
theorem CwG_zero (C:Nat→Ct) (n st U:Nat) (c:Nat→Ct) : ∀ j,CwG C n st U c j 0=C 0
 | 0=>rfl
 | j+1=>by
  show (if 0=(st+(U+j)) % n+1 then c j else CwG C n st U c j 0)=_
  rw [if_neg (by omega),CwG_zero]
theorem CwG_at {C:Nat→Ct} {n st U:Nat} {c:Nat→Ct} (hst:st < n) : ∀ (j:Nat),U+j≤n → ∀ x,x < n→CwG C n st U c j ((st+x) % n+1)=if U≤x∧x < U+j then c (x - U) else C ((st+x) % n+1)
 | 0,_,x,_=>by rw [if_neg (by omega)];rfl
 | j+1,hj,x,hx=>by
  show (if (st+x) % n+1=(st+(U+j)) % n+1 then c j else CwG C n st U c j ((st+x) % n+1))=_
  by_cases e:x=U+j
  ·subst e
   rw [if_pos rfl,if_pos (by omega),Nat.add_sub_cancel_left]
  ·rw [if_neg (fun h=>e (ring_inj hst hx (by omega) (by omega))),CwG_at hst j (by omega) x hx]
   by_cases h2:U≤x∧x < U+j
   ·rw [if_pos h2,if_pos (by omega)]
   ·rw [if_neg h2,if_neg (by omega)]
theorem CwG_sec {S:Dk} {C:Nat→Ct} {fr n st U:Nat} {c:Nat→Ct} (h : ∀ k,k < n+1→Sec (S.now (fr+k)) (C k)) : ∀ (j:Nat),(∀ i,i < j→(c i).Ok) → ∀ k,k < n+1→Sec ((wrG S fr n st U c j).now (fr+k)) (CwG C n st U c j k)
 | 0,_,k,hk=>h k hk
 | j+1,hc,k,hk=>by
  show Sec (if fr+k=fr+1+(st+(U+j)) % n then (c j).laid else (wrG S fr n st U c j).now (fr+k)) (if k=(st+(U+j)) % n+1 then c j else CwG C n st U c j k)
  by_cases e:k=(st+(U+j)) % n+1
  ·rw [if_pos e,if_pos (by omega)]
   exact .inr ⟨hc j (by omega),rfl⟩
  ·rw [if_neg e,if_neg (by omega)]
   exact CwG_sec h j (fun i hi=>hc i (by omega)) k hk
structure DLog (fr n A F st cnt:Nat) (ag:Nat→Nat) (L:List (List UInt8)) (C:Nat→Ct) (S:Dk):Prop where
 goes:Goes S
 sec : ∀ k,k < n+1→Sec (S.now (fr+k)) (C k)
 root:C 0=rootC fr (n+1) A F st cnt
 ring:RingG (fun j=>C (j+1)) n F st ag L
 safe:cnt≤L.length
 young : ∀ m,cnt≤m→m < L.length→ag m=A
 pcs : ∀ j,j < n→C (j+1)=Ct.zero∨IsPc (C (j+1)) A
 age:1≤A
section
variable {fr n A F st cnt:Nat} {ag:Nat→Nat} {L:List (List UInt8)} {C:Nat→Ct} {S:Dk}
theorem RingG.snoc {R:Nat→Ct} (h:RingG R n F st ag L) {t:List UInt8} (h1:1≤t.length) (h2:t.length≤1024) (hU:off L L.length+np t.length≤n) {C:Nat→Ct} (hC : ∀ j,C (j+1)=R j) :
  RingG (fun j=>CwG C n st (off L L.length) (pc A (F+L.length) t) (np t.length) (j+1)) n F st (fun m=>if m < L.length then ag m else A) (L ++ [t]) where
 sn:=h.sn
 fits:=by rw [off_snoc];exact hU
 has m u hu i hi:=by
  by_cases hm:m < L.length
  ·rw [List.getElem?_append_left hm] at hu
   have hlt:off L m+i < off L L.length:=by
    have:=off_succ hu
    have:=off_mono L (show m+1≤L.length by omega)
    omega
   have hn:=h.fits
   show CwG C n st (off L L.length) _ _ ((st+off (L ++ [t]) m+i) % n+1)=_
   rw [off_pre L t (by omega),if_pos hm,Nat.add_assoc,CwG_at h.sn _ hU _ (by omega),if_neg (by omega),hC, ← Nat.add_assoc]
   exact h.has m u hu i hi
  ·have hm2:m < (L ++ [t]).length:=(List.getElem?_eq_some_iff.1 hu).1
   obtain rfl:m=L.length:=by simp at hm2;omega
   have hut:u=t:=by simp at hu;exact hu.symm
   subst hut
   show CwG C n st (off L L.length) _ _ ((st+off (L ++ [u]) L.length+i) % n+1)=_
   rw [off_pre L u (Nat.le_refl _),if_neg hm,Nat.add_assoc,CwG_at h.sn _ hU _ (by omega),if_pos (by omega),Nat.add_sub_cancel_left]
 nu q hq:=by
  obtain ⟨x,hx,rfl⟩:=ring_off h.sn hq
  show (CwG C n st (off L L.length) _ _ ((st+x) % n+1)).nu < _
  rw [CwG_at h.sn _ hU x hx,List.length_append]
  split
  ·show F+L.length < _
   simp
  ·rw [hC]
   have:=h.nu _ hq
   omega
 tx q hq:=by
  obtain ⟨x,hx,rfl⟩:=ring_off h.sn hq
  show (CwG C n st (off L L.length) _ _ ((st+x) % n+1)).tx.length≤_
  rw [CwG_at h.sn _ hU x hx]
  split
  ·simp [pc]
   omega
  ·rw [hC]
   exact h.tx _ hq
 sz q hq:=by
  obtain ⟨x,hx,rfl⟩:=ring_off h.sn hq
  show (CwG C n st (off L L.length) _ _ ((st+x) % n+1)).sz≤_
  rw [CwG_at h.sn _ hU x hx]
  split
  ·exact h2
  ·rw [hC]
   exact h.sz _ hq
 pos u hu:=by
  rcases List.mem_append.1 hu with q | q
  ·exact h.pos u q
  ·simp at q
   rw [q]
   exact h1
 len u hu:=by
  rcases List.mem_append.1 hu with q | q
  ·exact h.len u q
  ·simp at q
   rw [q]
   exact h2
theorem DLog.append (h:DLog fr n A F st cnt ag L C S) {t:List UInt8} (h1:1≤t.length) (h2:t.length≤1024) (hU:off L L.length+np t.length≤n) (hA:A≤1000000) (hF1:1≤F) (hF:F+L.length≤1000000) :
  DLog fr n A F st cnt (fun m=>if m < L.length then ag m else A) (L ++ [t]) (CwG C n st (off L L.length) (pc A (F+L.length) t) (np t.length)) (wrG S fr n st (off L L.length) (pc A (F+L.length) t) (np t.length)) where
 goes:=h.goes.wrG _ _ _ _ _ _
 sec:=CwG_sec h.sec _ fun i hi=>pc_ok (by omega) (by omega) h2 (by unfold np at hi;omega)
 root:=by rw [CwG_zero];exact h.root
 ring:=h.ring.snoc h1 h2 hU fun _=>rfl
 safe:=by have:=h.safe;simp;omega
 young m q1 q2:=by
  show (if m < L.length then ag m else A)=A
  split
  ·exact h.young m q1 ‹_›
  ·rfl
 pcs j hj:=by
  obtain ⟨x,hx,rfl⟩:=ring_off h.ring.sn hj
  rw [CwG_at h.ring.sn _ hU x hx]
  split
  ·exact .inr (pc_isPc h.age (Nat.le_refl _) (by omega) (by omega) (by omega) h2 (by omega))
  ·exact h.pcs _ hj
 age:=h.age
theorem off_drop (L:List (List UInt8)) (k:Nat) : ∀ m,off L (k+m)=off L k+off (L.drop k) m:=fun m=>by
 unfold off
 rw [List.take_add,List.map_append,List.sum_append]
theorem RingG.drop {R:Nat→Ct} (h:RingG R n F st ag L) {k:Nat} (hk:k≤L.length):RingG R n (F+k) ((st+off L k) % n) (fun m=>ag (k+m)) (L.drop k) where
 sn:=Nat.mod_lt _ h.n_pos
 fits:=by
  have h1:=off_drop L k (L.drop k).length
  have h2:=h.fits
  rw [List.length_drop,show k+(L.length - k)=L.length by omega] at h1
  rw [List.length_drop]
  omega
 has m t ht i hi:=by
  rw [List.getElem?_drop] at ht
  have:=h.has (k+m) t ht i hi
  rw [off_drop,show st+(off L k+off (L.drop k) m)+i=st+off L k+(off (L.drop k) m+i) by omega, ← Nat.mod_add_mod, ← Nat.add_assoc] at this
  rw [this,Nat.add_assoc]
 nu q hq:=by
  have:=h.nu q hq
  rw [List.length_drop]
  omega
 tx:=h.tx
 sz:=h.sz
 pos t ht:=h.pos t (List.mem_of_mem_drop ht)
 len t ht:=h.len t (List.mem_of_mem_drop ht)
theorem IsPc.older {c:Ct} {a b:Nat} (h:IsPc c a) (h1:a≤b) (h2:b≤2147483647):IsPc c b:=⟨h.kd,h.a1,Nat.le_trans h.a2 h1,h2,h.nu,h.n2,h.sz,h.pl,h.tx⟩
def CrG (C:Nat→Ct) (c:Ct):Nat→Ct
 | 0=>c
 | j+1=>C (j+1)
theorem DLog.settle (h:DLog fr n A F st cnt ag L C S) {A' k:Nat} (hA:A≤A') (hA':A'≤1000000) (hk:k≤L.length) (hF:F+L.length≤1000000) (hn:n≤1024) :
  DLog fr n A' (F+k) ((st+off L k) % n) (L.drop k).length (fun m=>ag (k+m)) (L.drop k) (CrG C (rootC fr (n+1) A' (F+k) ((st+off L k) % n) (L.drop k).length)) (settleS S fr (n+1) A' (F+k) ((st+off L k) % n) (L.drop k).length) where
 goes:=(h.goes.flush.set _ _).flush
 sec j hj:=by
  have hm:(st+off L k) % n < n:=Nat.mod_lt _ h.ring.n_pos
  have hd:(L.drop k).length≤L.length:=by rw [List.length_drop];omega
  match j with
  | 0 =>
   refine .inr ⟨rootC_ok (by omega) (by omega) (by omega) (by omega),?_⟩
   show (if fr+0=fr then _ else _)=_
   rw [if_pos (by omega)]
   rfl
  | j+1 =>
   show Sec (if fr+(j+1)=fr then _ else S.now (fr+(j+1))) (C (j+1))
   rw [if_neg (by omega)]
   exact h.sec _ hj
 root:=rfl
 ring:=h.ring.drop hk
 safe:=Nat.le_refl _
 young m q1 q2:=absurd q2 (by omega)
 pcs j hj:=(h.pcs j hj).imp id fun q=>q.older hA (by omega)
 age:=Nat.le_trans h.age hA
theorem settleS_had (S:Dk) (fr se A F st m k:Nat):(settleS S fr se A F st m).had k=none:=rfl
theorem DLog.flush (h:DLog fr n A F st cnt ag L C S):DLog fr n A F st cnt ag L C (flushS S):=⟨h.goes.flush,h.sec,h.root,h.ring,h.safe,h.young,h.pcs,h.age⟩
theorem DLog.crash (h:DLog fr n A F st cnt ag L C S) (hn : ∀ k,k < n+1→S.had (fr+k)=none) (keep:List Bool) {ks:List Nat} (hk:Dirty S.had ks):DLog fr n A F st cnt ag L C (crS S keep ks) where
 goes:=crS_goes _ _ _
 sec j hj:=by
  show Sec (crN keep S.had ks ks.length S.now (fr+j)) _
  rw [crN_clean hk _ _ (hn j hj)]
  exact h.sec j hj
 root:=h.root
 ring:=h.ring
 safe:=h.safe
 young:=h.young
 pcs:=h.pcs
 age:=h.age
end
theorem DLog.new {S:Dk} (hg:Goes S) (fr n:Nat) (hn:1≤n) (hz : ∀ k,k < n+1→S.now (fr+k)=zs) :
    DLog fr n 1 1 0 0 (fun _ => 1) [] (CrG (fun _ => Ct.zero) (rootC fr (n + 1) 1 1 0 0)) (settleS S fr (n + 1) 1 1 0 0) where
  goes := (hg.flush.set _ _).flush
  sec j hj := by
    match j with
    | 0 =>
      refine .inr ⟨rootC_ok (by omega) (by omega) (by omega) (by omega), ?_⟩
      show (if fr + 0 = fr then _ else _) = _
      rw [if_pos (by omega)]
      rfl
    | j + 1 =>
      show Sec (if fr + (j + 1) = fr then _ else S.now (fr + (j + 1))) Ct.zero
      rw [if_neg (by omega), hz _ hj]
      exact sec_zero
  root := rfl
  ring :=
    { sn := by omega
      fits := by simp [off]
      has := fun m t ht => by simp at ht
      nu := fun q hq => by show 0 < _; simp
      tx := fun q hq => by simp [CrG, Ct.zero]
      sz := fun q hq => by simp [CrG, Ct.zero]
      pos := fun t ht => by simp at ht
      len := fun t ht => by simp at ht }
  safe := Nat.le_refl _
  young m _ q := absurd q (by simp)
  pcs j hj := .inl rfl
  age := Nat.le_refl _
theorem load_dlog {w:World} {g p q r n N fr A F st cnt ag0 fi st0:Nat} {ag:Nat→Nat} {L:List (List UInt8)} {C:Nat→Ct} {S:Dk} (h:DLog fr n A F st cnt ag L C S) (hL:LAt w g p fr (n+1) ag0 fi st0 (.slice none 0 0)) (hd:DAt w p q r N S) (h1:fr+(n+1)≤N) (hn:n≤1024) (hA:A≤1000000) (hF1:1≤F) (hF:F≤1000000) (hl:L.length≤1000) :
  Calls Tryz.prog 67 #[.pointer (some ⟨g,0,none⟩)] w (LdG (fun T=>T=L) w g p fr (n+1) A F st) :=
 (load_all hL hd h1 rfl hn h.sec h.root h.ring h.safe h.young h.pcs h.age hA hF1 hF hl).mono fun _ _ ⟨vt,vs,he,h2,h3,h4,h5⟩=>⟨L,vt,vs,rfl,hl,he,h2,h3,h4,h5⟩
theorem open_dlog {w:World} {p q r n N fr A F st cnt:Nat} {ag:Nat→Nat} {L:List (List UInt8)} {C:Nat→Ct} {S:Dk} (h:DLog fr n A F st cnt ag L C S) (hd:DAt w p q r N S) (h0:7≤n) (hn:n+1≤1024) (h1:fr+(n+1)≤N) (hA:A≤1000000) (hF1:1≤F) (hF:F≤1000000) (hl:L.length≤1000) :
  Calls Tryz.prog 35 #[.pointer (some ⟨p,0,none⟩), .int .i64 (fr:Int), .int .i64 ((n+1:Nat):Int)] w (OpG (fun T=>T=L) w p q r N fr (n+1) A F st S) :=
 open_all hd h.goes (by omega) hn h1 hA hF (by have:=h.ring.sn;omega) fun W g hL hD=>load_dlog h hL hD h1 (by omega) hA hF1 hF hl
end Go.Proofs.YtcodpnbemdflcaaGreatDoor

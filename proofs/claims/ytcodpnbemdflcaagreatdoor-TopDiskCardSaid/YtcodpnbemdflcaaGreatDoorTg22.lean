/-
  A heap's copy is asked for a word, a link, a root: where each is kept; what is kept there: contracts.
  The document's operations on roots: contract. Words for functions that take a heap and an operation.
  A word, a link, a root of a heap's copy is stored: contracts.
-/
import Derived.Test.YtcodpnbemdflcaaGreatDoorTg21
import Derived.Test.YtcodpnbemdflcaaGreatDoorTg18
import Derived.BigRegion
namespace Go.Proofs.YtcodpnbemdflcaaGreatDoor
open Go.RowKit
set_option maxHeartbeats 1000000 in
theorem cell_out (A:Option Addr) (n c:Nat) (i:Int) (w:World) (hi : ¬ (0≤i∧i < (n:Int))) :
  Calls Tryz.prog 91 #[.slice A n c, .int .i64 i] w fun e w'=>e = .returned (.tuple #[.pointer none, .int .i64 52])∧w=w':=by
 by_cases h0:i < 0
 ·have d0:decide (i < 0)=true:=decide_eq_true h0
  go_enter Tryz.func91,Tryz.ntmps91
  go_wp2
  go_ret2
  exact ⟨rfl,rfl⟩
 ·have d0:decide (i < 0)=false:=decide_eq_false h0
  have h1:(n:Int)≤i:=by omega
  have d1:decide ((n:Int)≤i)=true:=decide_eq_true h1
  go_enter Tryz.func91,Tryz.ntmps91
  go_wp2
  go_ret2
  exact ⟨rfl,rfl⟩
set_option maxHeartbeats 1000000 in
theorem cell_in (b off n c j:Nat) (w:World) (hi:j < n) :
  Calls Tryz.prog 91 #[.slice (some ⟨b,off,none⟩) n c, .int .i64 (j:Int)] w fun e w'=>e = .returned (.tuple #[.pointer (some ⟨b,off+j,none⟩), .int .i64 0])∧w=w':=by
 have h1 : ¬ (n:Int)≤(j:Int):=by omega
 have h2:(j:Int) < (n:Int):=by omega
 have d1:decide ((n:Int)≤(j:Int))=false:=decide_eq_false h1
 go_enter Tryz.func91,Tryz.ntmps91
 go_wp2
 go_ret2
 exact ⟨by first | rfl | (simp;done),rfl⟩
set_option maxHeartbeats 1000000 in
theorem read_bad (p:Value) (k:Int) (w:World) (hk:k≠0) :
  Calls Tryz.prog 50 #[p, .int .i64 k] w fun e w'=>e = .returned (.tuple #[.int .i64 0, .int .i64 k])∧w=w':=by
 have hk0:(k != 0)=true:=by simp [hk]
 have Hk:=Lib.hid hk
 clear hk
 go_enter Tryz.func50,Tryz.ntmps50
 go_wp2
 go_ret2
 exact ⟨rfl,rfl⟩
set_option maxHeartbeats 1000000 in
theorem read_good (b off:Nat) (x:Int) (w:World) (hc:w.cell? ⟨b,off,none⟩=some (.int .i64 x)) :
  Calls Tryz.prog 50 #[.pointer (some ⟨b,off,none⟩), .int .i64 0] w fun e w'=>e = .returned (.tuple #[.int .i64 x, .int .i64 0])∧w=w':=by
 go_enter Tryz.func50,Tryz.ntmps50
 go_wp2
 go_ret2
 exact ⟨rfl,rfl⟩
def SpotPost (w:World) (base:Nat) (os:List (Ob × OSl)) (H:Hp) (links:Bool) (g i:Int) (e:Ending) (w':World):Prop :=
 Grew w w' ∧
 ((findO H.obs g=none∧e = .returned (.tuple #[.pointer none, .int .i64 51])) ∨
  (∃ (p:Nat) (q:Ob × OSl),findO H.obs g=some (p,q.1)∧os[p]? = some q ∧
   ((¬ (0≤i∧i < (((if links then q.1.ls else q.1.ws)).length:Int))∧e = .returned (.tuple #[.pointer none, .int .i64 52])) ∨
   ∃ (j gw n c:Nat),i=(j:Int)∧j < n∧(if links then q.1.ls else q.1.ws).length=n∧(if links then q.2.lv else q.2.wv) = .slice (some ⟨gw,0,none⟩) n c∧base≤gw∧e = .returned (.tuple #[.pointer (some ⟨gw,j,none⟩), .int .i64 0]))))
theorem OwnV.formV {U:TypeId} {w:World} {base n:Nat} {v:Value} {l:List Value} (h:OwnV U w base v l) (hn:l.length=n) (h0:0 < n) : ∃ g c,v = .slice (some ⟨g,0,none⟩) n c∧base≤g:=by
 subst hn
 rcases h.2 with ⟨rfl,hn⟩ | ⟨g,cap,cur,rfl,hg,_⟩
 ·omega
 ·exact ⟨g,cap,rfl,hg⟩
theorem OwnOs.cellAt {U I:TypeId} {w:World} {base g n c:Nat} {os:List (Ob × OSl)} (h:OwnOs U I w base (.slice (some ⟨g,0,none⟩) n c) os) (hn:os.length=n) {p:Nat} {q:Ob × OSl} (hp:os[p]? = some q) {i:Nat} {u:Value} (hu:(oc q)[i]? = some u):w.cell? ⟨g,p*5+i,none⟩=some u:=by
 have hr:=h.row
 rw [hn] at hr
 have hi:=(List.getElem?_eq_some_iff.1 hu).1
 have hpl:=(List.getElem?_eq_some_iff.1 hp).1
 have h5:(oc q).length=5:=rfl
 rw [World.ownsRow.cellAt hr _ (by omega)]
 exact ocs_get hp i u hu
set_option maxRecDepth 100000 in
set_option maxHeartbeats 2000000 in
theorem word_any (base g:Nat) (s:HSl) (os:List (Ob × OSl)) (H:Hp) (h i:Int) (w:World) (C:CpAt w base g s os H) (hr:H.obs.Pairwise (fun a b=>a.hd < b.hd)) (hS:s.n≤1000) :
  Calls Tryz.prog 51 #[.pointer (some ⟨g,0,none⟩), .int .i64 h, .int .i64 i] w (SpotPost w base os H false h i):=by
 have HC:=Lib.hid C
 have hol:os.length=s.n:=by have:=C.own.rd.obs.len;rw [C.own.obs,List.length_map] at this;exact this
 have S:=find_any H.obs h s.A s.n s.c w C.own.rd.obs hS hr
 obtain ⟨A,n,c,F,m,d⟩:=s
 have c1:=C.box.cell 1
 simp only [hcs,List.getElem?_cons_succ,List.getElem?_cons_zero] at *
 clear C
 have Hol:=Lib.hid hol
 clear hol hr
 go_enter Tryz.func51,Tryz.ntmps51
 go_upto_region 2 with (go_at_call 86;refine S.mono ?_;rintro e w2 (⟨p,x,hpn,hf,rfl,g2⟩ | ⟨k,hf,rfl,g2⟩))
 ·have C2:=HC.out.below g2.below
  have hx:H.obs[p]? = some x:=(findO_get hf).1
  obtain ⟨q,hq,hqx⟩ : ∃ q,os[p]? = some q∧q.1=x:=by
   rw [HC.out.own.obs,List.getElem?_map,Option.map_eq_some_iff] at hx
   exact hx
  have hq1:=C2.own.objs.ints q (List.mem_of_getElem? hq)
  obtain ⟨gO,hgO⟩:=row_some (by have h1:=C2.own.objs.row;rw [Hol.out] at h1;exact h1) (by omega:0 < n)
  subst hgO
  have c1':=C2.box.cell 1
  simp only [hcs,List.getElem?_cons_succ,List.getElem?_cons_zero] at c1'
  have z3:=C2.own.objs.cellAt Hol.out hq (i:=3) rfl
  have hpi:(p:Int) < (n:Int):=by omega
  have Hf:=Lib.hid (show findO H.obs h=some (p,q.1) by rw [hqx];exact hf)
  have Hq:=Lib.hid hq
  obtain ⟨A1,d1,hv,_,_,_⟩:=OwnV.shape hq1.1 (n:=q.1.ws.length) (ivs_length _)
  rw [hv] at z3
  have Hv:=Lib.hid hv
  have Hq1:=Lib.hid hq1.1
  clear hf hx hqx hq hq1 C2 hv c1
  by_cases hi:0≤i∧i < (q.1.ws.length:Int)
  ·obtain ⟨j,rfl⟩:=Int.eq_ofNat_of_zero_le hi.1
   obtain ⟨nn,hnn⟩ : ∃ nn,nn=q.1.ws.length:=⟨_,rfl⟩
   have hj:j < nn:=by omega
   obtain ⟨gw,c2,hv2,hgw⟩:=Hq1.out.formV (n:=nn) (by rw [ivs_length];exact hnn.symm) (by omega)
   have Hv2:=Lib.hid hv2
   rw [Hv.out, ← hnn] at hv2
   injection hv2 with e1 e2 e3
   subst e1 e3
   rw [← hnn] at z3
   have Hnn:=Lib.hid hnn
   have K:=fun W=>cell_in gw 0 nn d1 j W hj
   rw [Nat.zero_add] at K
   clear hnn hi e2
   go_wp2_with (go_at_call 91;refine (K _).mono ?_;rintro e w3 ⟨rfl,rfl⟩)
   go_ret2
   exact ⟨g2, .inr ⟨p,q,Hf.out,Hq.out, .inr ⟨j,gw,nn,d1,rfl,hj,by simpa using Hnn.out.symm,by simpa [Hnn.out] using Hv2.out,hgw,rfl⟩⟩⟩
  ·have K:=fun W=>cell_out A1 q.1.ws.length d1 i W hi
   have Hi:=Lib.hid hi
   clear hi
   go_wp2_with (go_at_call 91;refine (K _).mono ?_;rintro e w3 ⟨rfl,rfl⟩)
   go_ret2
   exact ⟨g2, .inr ⟨p,q,Hf.out,Hq.out, .inl ⟨by simpa using Hi.out,rfl⟩⟩⟩
 ·have Hf:=Lib.hid hf
  clear hf
  go_wp2_with fail
  go_ret2
  exact ⟨g2, .inl ⟨Hf.out,rfl⟩⟩
set_option maxRecDepth 100000 in
set_option maxHeartbeats 2000000 in
theorem link_any (base g:Nat) (s:HSl) (os:List (Ob × OSl)) (H:Hp) (h i:Int) (w:World) (C:CpAt w base g s os H) (hr:H.obs.Pairwise (fun a b=>a.hd < b.hd)) (hS:s.n≤1000) :
  Calls Tryz.prog 52 #[.pointer (some ⟨g,0,none⟩), .int .i64 h, .int .i64 i] w (SpotPost w base os H true h i):=by
 have HC:=Lib.hid C
 have hol:os.length=s.n:=by have:=C.own.rd.obs.len;rw [C.own.obs,List.length_map] at this;exact this
 have S:=find_any H.obs h s.A s.n s.c w C.own.rd.obs hS hr
 obtain ⟨A,n,c,F,m,d⟩:=s
 have c1:=C.box.cell 1
 simp only [hcs,List.getElem?_cons_succ,List.getElem?_cons_zero] at *
 clear C
 have Hol:=Lib.hid hol
 clear hol hr
 go_enter Tryz.func52,Tryz.ntmps52
 go_upto_region 2 with (go_at_call 86;refine S.mono ?_;rintro e w2 (⟨p,x,hpn,hf,rfl,g2⟩ | ⟨k,hf,rfl,g2⟩))
 ·have C2:=HC.out.below g2.below
  have hx:H.obs[p]? = some x:=(findO_get hf).1
  obtain ⟨q,hq,hqx⟩ : ∃ q,os[p]? = some q∧q.1=x:=by
   rw [HC.out.own.obs,List.getElem?_map,Option.map_eq_some_iff] at hx
   exact hx
  have hq1:=C2.own.objs.ints q (List.mem_of_getElem? hq)
  obtain ⟨gO,hgO⟩:=row_some (by have h1:=C2.own.objs.row;rw [Hol.out] at h1;exact h1) (by omega:0 < n)
  subst hgO
  have c1':=C2.box.cell 1
  simp only [hcs,List.getElem?_cons_succ,List.getElem?_cons_zero] at c1'
  have z3:=C2.own.objs.cellAt Hol.out hq (i:=4) rfl
  have hpi:(p:Int) < (n:Int):=by omega
  have Hf:=Lib.hid (show findO H.obs h=some (p,q.1) by rw [hqx];exact hf)
  have Hq:=Lib.hid hq
  obtain ⟨A1,d1,hv,_,_,_⟩:=OwnV.shape hq1.2 (n:=q.1.ls.length) (ivs_length _)
  rw [hv] at z3
  have Hv:=Lib.hid hv
  have Hq1:=Lib.hid hq1.2
  clear hf hx hqx hq hq1 C2 hv c1
  by_cases hi:0≤i∧i < (q.1.ls.length:Int)
  ·obtain ⟨j,rfl⟩:=Int.eq_ofNat_of_zero_le hi.1
   obtain ⟨nn,hnn⟩ : ∃ nn,nn=q.1.ls.length:=⟨_,rfl⟩
   have hj:j < nn:=by omega
   obtain ⟨gw,c2,hv2,hgw⟩:=Hq1.out.formV (n:=nn) (by rw [ivs_length];exact hnn.symm) (by omega)
   have Hv2:=Lib.hid hv2
   rw [Hv.out, ← hnn] at hv2
   injection hv2 with e1 e2 e3
   subst e1 e3
   rw [← hnn] at z3
   have Hnn:=Lib.hid hnn
   have K:=fun W=>cell_in gw 0 nn d1 j W hj
   rw [Nat.zero_add] at K
   clear hnn hi e2
   go_wp2_with (go_at_call 91;refine (K _).mono ?_;rintro e w3 ⟨rfl,rfl⟩)
   go_ret2
   exact ⟨g2, .inr ⟨p,q,Hf.out,Hq.out, .inr ⟨j,gw,nn,d1,rfl,hj,by simpa using Hnn.out.symm,by simpa [Hnn.out] using Hv2.out,hgw,rfl⟩⟩⟩
  ·have K:=fun W=>cell_out A1 q.1.ls.length d1 i W hi
   have Hi:=Lib.hid hi
   clear hi
   go_wp2_with (go_at_call 91;refine (K _).mono ?_;rintro e w3 ⟨rfl,rfl⟩)
   go_ret2
   exact ⟨g2, .inr ⟨p,q,Hf.out,Hq.out, .inl ⟨by simpa using Hi.out,rfl⟩⟩⟩
 ·have Hf:=Lib.hid hf
  clear hf
  go_wp2_with fail
  go_ret2
  exact ⟨g2, .inl ⟨Hf.out,rfl⟩⟩
def TopPost (w:World) (g:Nat) (i:Int) (e:Ending) (w':World):Prop :=
 w=w'∧((¬ (0≤i∧i < 4)∧e = .returned (.tuple #[.pointer none, .int .i64 52])) ∨ ∃ j:Nat,i=(j:Int)∧j < 4∧e = .returned (.tuple #[.pointer (some ⟨g,3+j,none⟩), .int .i64 0]))
set_option maxHeartbeats 2000000 in
theorem top_any (g:Nat) (i:Int) (w:World):Calls Tryz.prog 53 #[.pointer (some ⟨g,0,none⟩), .int .i64 i] w (TopPost w g i):=by
 have u3:=Tryz.underlying25
 by_cases hi:0≤i∧i < 4
 ·obtain ⟨j,rfl⟩:=Int.eq_ofNat_of_zero_le hi.1
  have hj:j < 4:=by omega
  have K:=fun W=>cell_in g 3 4 4 j W hj
  clear hi
  go_enter Tryz.func53,Tryz.ntmps53
  go_wp2_with (go_at_call 91;refine (K _).mono ?_;rintro e w3 ⟨rfl,rfl⟩)
  go_ret2
  exact ⟨rfl, .inr ⟨j,rfl,hj,rfl⟩⟩
 ·have K:=fun W=>cell_out (some ⟨g,3,none⟩) 4 4 i W hi
  have Hi:=Lib.hid hi
  clear hi
  go_enter Tryz.func53,Tryz.ntmps53
  go_wp2_with (go_at_call 91;refine (K _).mono ?_;rintro e w3 ⟨rfl,rfl⟩)
  go_ret2
  exact ⟨rfl, .inl ⟨Hi.out,rfl⟩⟩
end Go.Proofs.YtcodpnbemdflcaaGreatDoor
namespace Go.Proofs.YtcodpnbemdflcaaGreatDoor
open Go.RowKit
def opcs (o:Opn):List Value := [.int .i64 o.k, .int .i64 o.h, .int .i64 o.i, .int .i64 o.n, .int .i64 o.kk, .int .i64 o.v, .int .i64 o.t]
def opv (o:Opn):Value := .agg (opcs o).toArray
def rcs:List Value := [.int .i64 0, .int .i64 0]
structure FnMem (w:World) (hc oc:List Value) (W:World):Prop where
 kh:Whole W w.heap.size 28 hc
 ko:Whole W (w.heap.size+1) 45 oc
 kr:Whole W (w.heap.size+1+1) 28 zcs
 kq:Whole W (w.heap.size+1+1+1) 40 rcs
 bel:Below w.heap.size w W
theorem FnMem.start (w:World) (hc oc:List Value):FnMem w hc oc ((((w.alloc (.cells hc.toArray 28)).alloc (.cells oc.toArray 45)).alloc (.cells zcs.toArray 28)).alloc (.cells rcs.toArray 40)):=by
 have z1:(w.alloc (.cells hc.toArray 28)).heap.size=w.heap.size+1:=by simp
 have z2:((w.alloc (.cells hc.toArray 28)).alloc (.cells oc.toArray 45)).heap.size=w.heap.size+1+1:=by simp
 have z3:(((w.alloc (.cells hc.toArray 28)).alloc (.cells oc.toArray 45)).alloc (.cells zcs.toArray 28)).heap.size=w.heap.size+1+1+1:=by simp
 have k1:=Whole.new (w.alloc (.cells hc.toArray 28)) oc.toArray 45
 have k2:=Whole.new ((w.alloc (.cells hc.toArray 28)).alloc (.cells oc.toArray 45)) zcs.toArray 28
 have k3:=Whole.new (((w.alloc (.cells hc.toArray 28)).alloc (.cells oc.toArray 45)).alloc (.cells zcs.toArray 28)) rcs.toArray 40
 rw [z1] at k1
 rw [z2] at k2
 rw [z3] at k3
 exact ⟨(((Whole.new w hc.toArray 28).alloc _).alloc _).alloc _,(k1.alloc _).alloc _,k2.alloc _,k3,((((Grew.refl w).alloc _).alloc _).alloc _).alloc _ |>.below⟩
theorem FnMem.below {w W W':World} {hc oc:List Value} (h:FnMem w hc oc W) (b:Below W.heap.size W W'):FnMem w hc oc W' :=
 ⟨h.kh.below b,h.ko.below b,h.kr.below b,h.kq.below b,h.bel.trans (b.mono h.bel.size)⟩
theorem results_two {fn:Func} {p q:Tmp} (h:fn.results = #[.cell p 28, .cell q 40]) (tmps:Array Value) (w:World) (kp kq:Nat) (hp:tmps.getD p undef = .pointer (some ⟨kp,0,none⟩)) (hq:tmps.getD q undef = .pointer (some ⟨kq,0,none⟩))
  {a0 a1 a2 a3 a4 a5 a6 a7 b0 b1:Value} (K:Whole w kp 28 [a0,a1,a2,a3,a4,a5,a6,a7]) (R:Whole w kq 40 [b0,b1]):(results fn tmps).run Tryz.prog w = .ok (.tuple #[.agg #[a0,a1,a2,a3,a4,a5,a6,a7], .agg #[b0,b1]]) w:=by
 have u1:=Tryz.underlying28
 have z1:=Tryz.sizeOf28
 have i1:=Tryz.isAgg28
 have u2:=Tryz.underlying40
 have z2:=Tryz.sizeOf40
 have i2:=Tryz.isAgg40
 have hp':tmps[p]?.getD undef = .pointer (some ⟨kp,0,none⟩):=by simpa using hp
 have hq':tmps[q]?.getD undef = .pointer (some ⟨kq,0,none⟩):=by simpa using hq
 have c0:=K.cell 0
 have c1:=K.cell 1
 have c2:=K.cell 2
 have c3:=K.cell 3
 have c4:=K.cell 4
 have c5:=K.cell 5
 have c6:=K.cell 6
 have c7:=K.cell 7
 have d0:=R.cell 0
 have d1:=R.cell 1
 simp only [List.getElem?_cons_succ,List.getElem?_cons_zero] at c0 c1 c2 c3 c4 c5 c6 c7 d0 d1
 simp only [results,h]
 simp [hp',hq',asAddr,loadVar]
 go_simp
theorem FnMem.fin {w W:World} {hc oc:List Value} (h:FnMem w hc oc W) (a0 a1 a2 a3 a4 a5 a6 a7 b0 b1:Value) :
  Whole ((((((((((W.setCell ⟨w.heap.size+1+1,0,none⟩ a0).setCell ⟨w.heap.size+1+1,1,none⟩ a1).setCell ⟨w.heap.size+1+1,2,none⟩ a2).setCell ⟨w.heap.size+1+1,3,none⟩ a3).setCell ⟨w.heap.size+1+1,4,none⟩ a4).setCell ⟨w.heap.size+1+1,5,none⟩ a5).setCell ⟨w.heap.size+1+1,6,none⟩ a6).setCell ⟨w.heap.size+1+1,7,none⟩ a7).setCell ⟨w.heap.size+1+1+1,0,none⟩ b0).setCell ⟨w.heap.size+1+1+1,1,none⟩ b1) (w.heap.size+1+1) 28 [a0,a1,a2,a3,a4,a5,a6,a7]∧Whole ((((((((((W.setCell ⟨w.heap.size+1+1,0,none⟩ a0).setCell ⟨w.heap.size+1+1,1,none⟩ a1).setCell ⟨w.heap.size+1+1,2,none⟩ a2).setCell ⟨w.heap.size+1+1,3,none⟩ a3).setCell ⟨w.heap.size+1+1,4,none⟩ a4).setCell ⟨w.heap.size+1+1,5,none⟩ a5).setCell ⟨w.heap.size+1+1,6,none⟩ a6).setCell ⟨w.heap.size+1+1,7,none⟩ a7).setCell ⟨w.heap.size+1+1+1,0,none⟩ b0).setCell ⟨w.heap.size+1+1+1,1,none⟩ b1) (w.heap.size+1+1+1) 40 [b0,b1]∧Below w.heap.size w ((((((((((W.setCell ⟨w.heap.size+1+1,0,none⟩ a0).setCell ⟨w.heap.size+1+1,1,none⟩ a1).setCell ⟨w.heap.size+1+1,2,none⟩ a2).setCell ⟨w.heap.size+1+1,3,none⟩ a3).setCell ⟨w.heap.size+1+1,4,none⟩ a4).setCell ⟨w.heap.size+1+1,5,none⟩ a5).setCell ⟨w.heap.size+1+1,6,none⟩ a6).setCell ⟨w.heap.size+1+1,7,none⟩ a7).setCell ⟨w.heap.size+1+1+1,0,none⟩ b0).setCell ⟨w.heap.size+1+1+1,1,none⟩ b1):=by
 have g1:=grown_set8 W (w.heap.size+1+1) a0 a1 a2 a3 a4 a5 a6 a7
 have k1:=(((((((h.kr.set 0 a0).set 1 a1).set 2 a2).set 3 a3).set 4 a4).set 5 a5).set 6 a6).set 7 a7
 have q1:=h.kq.grown g1 (by omega)
 have b1':=below_grown h.bel g1 h.bel.size (by omega)
 generalize ((((((((W.setCell ⟨w.heap.size+1+1,0,none⟩ a0).setCell ⟨w.heap.size+1+1,1,none⟩ a1).setCell ⟨w.heap.size+1+1,2,none⟩ a2).setCell ⟨w.heap.size+1+1,3,none⟩ a3).setCell ⟨w.heap.size+1+1,4,none⟩ a4).setCell ⟨w.heap.size+1+1,5,none⟩ a5).setCell ⟨w.heap.size+1+1,6,none⟩ a6).setCell ⟨w.heap.size+1+1,7,none⟩ a7)=W1 at g1 k1 q1 b1' ⊢
 have g2:=grown_trans (grown_set W1 (w.heap.size+1+1+1) 0 b0) (grown_set _ (w.heap.size+1+1+1) 1 b1)
 exact ⟨k1.grown g2 (by omega),(q1.set 0 b0).set 1 b1,below_grown b1' g2 b1'.size (by omega)⟩
theorem FnMem.heap {w W:World} {hc oc:List Value} (h:FnMem w hc oc W) (j:Nat) (u:Value):FnMem w (hc.set j u) oc (W.setCell ⟨w.heap.size,j,none⟩ u):=by
 have g:=grown_set W w.heap.size j u
 exact ⟨h.kh.set j u,h.ko.grown g (by omega),h.kr.grown g (by omega),h.kq.grown g (by omega),below_grown h.bel g h.bel.size (Nat.le_refl _)⟩
def InPost (w:World) (base:Nat) (r:Hp × Int × Int) (e:Ending) (w':World):Prop :=
 ∃ s os,e = .returned (.tuple #[hval r.1 s, .agg #[.int .i64 r.2.1, .int .i64 r.2.2]])∧OwnHp w' base s os r.1∧Below base w w'
theorem tget_set {H:Hp} {i j:Nat} {t:Int} (hi:i < H.tp.length):tget { H with tp:=H.tp.set i t } j=if i=j then t else tget H j:=by
 unfold tget
 simp only
 by_cases e:i=j
 ·subst e;rw [if_pos rfl,getD_set_self hi]
 ·rw [if_neg e,getD_set_ne e]
end Go.Proofs.YtcodpnbemdflcaaGreatDoor
namespace Go.Proofs.YtcodpnbemdflcaaGreatDoor
open Go.RowKit
def MethPost (w:World) (base g:Nat) (r:Hp × Int × Int) (e:Ending) (w':World):Prop :=
 ∃ s os,e = .returned (.int .i64 r.2.1)∧CpAt w' base g s os r.1∧Below base w w'
theorem heap_types {w:World} {k:Nat} {c1 c2:Array Value} {t1 t2:TypeId} (h1:w.heap[k]? = some (.cells c1 t1 (0,0))) (h2:w.heap[k]? = some (.cells c2 t2 (0,0))):t1=t2:=by
 rw [h1] at h2
 injection h2 with h2
 injection h2 with _ ht
theorem CpAt.boxne {w:World} {base g:Nat} {s:HSl} {os:List (Ob × OSl)} {H:Hp} (C:CpAt w base g s os H) {v:Value} {l:List Value} {b k:Nat} (h:OwnV 3 w b v l) (hk:v.ownBlock=some k):g≠k:=by
 rintro rfl
 obtain ⟨cur,h2⟩:=row_type h hk
 exact absurd (heap_types C.box h2) (by decide)
theorem CpAt.freene {w:World} {base g:Nat} {s:HSl} {os:List (Ob × OSl)} {H:Hp} (C:CpAt w base g s os H) {v:Value} {l:List Value} {b k:Nat} (h:OwnV 3 w b v l) (hk:v.ownBlock=some k) : ∀ j,(Value.slice s.F s.m s.d).ownBlock=some j→some j≠some k:=by
 intro j hj e
 injection e with e
 subst e
 obtain ⟨c1,h1⟩:=row_type C.own.free hj
 obtain ⟨c2,h2⟩:=row_type h hk
 exact absurd (heap_types h1 h2) (by decide)
theorem CpAt.setW {w:World} {base g gw n c j p:Nat} {s:HSl} {os:List (Ob × OSl)} {H:Hp} {q:Ob × OSl} (C:CpAt w base g s os H) (hb:base≤w.heap.size) (hq:os[p]? = some q) (hv:q.2.wv = .slice (some ⟨gw,0,none⟩) n c) (hn:q.1.ws.length=n) (hg:base≤gw) (t:Int) :
  CpAt (w.setCell ⟨gw,j,none⟩ (.int .i64 t)) base g s (os.set p ({ q.1 with ws:=q.1.ws.set j t },q.2)) { H with obs:=H.obs.set p { q.1 with ws:=q.1.ws.set j t } } ∧ Below base w (w.setCell ⟨gw,j,none⟩ (.int .i64 t)):=by
 have hi:=(C.own.objs.ints q (List.mem_of_getElem? hq)).1
 have hk:q.2.wv.ownBlock=some gw:=by rw [hv];rfl
 have gs:=grown_set w gw j (.int .i64 t)
 refine ⟨⟨C.box.grown gs (C.boxne hi hk),⟨C.own.objs.setW (by decide) hq hv hn t,?_,C.own.free.grown gs (C.freene hi hk),C.own.tp,C.own.nx⟩,C.ge⟩,(Below.refl _ _).grown gs hb fun k hk=>by injection hk with hk;omega⟩
 rw [List.map_set,C.own.obs]
theorem CpAt.setL {w:World} {base g gw n c j p:Nat} {s:HSl} {os:List (Ob × OSl)} {H:Hp} {q:Ob × OSl} (C:CpAt w base g s os H) (hb:base≤w.heap.size) (hq:os[p]? = some q) (hv:q.2.lv = .slice (some ⟨gw,0,none⟩) n c) (hn:q.1.ls.length=n) (hg:base≤gw) (t:Int) :
  CpAt (w.setCell ⟨gw,j,none⟩ (.int .i64 t)) base g s (os.set p ({ q.1 with ls:=q.1.ls.set j t },q.2)) { H with obs:=H.obs.set p { q.1 with ls:=q.1.ls.set j t } } ∧ Below base w (w.setCell ⟨gw,j,none⟩ (.int .i64 t)):=by
 have hi:=(C.own.objs.ints q (List.mem_of_getElem? hq)).2
 have hk:q.2.lv.ownBlock=some gw:=by rw [hv];rfl
 have gs:=grown_set w gw j (.int .i64 t)
 refine ⟨⟨C.box.grown gs (C.boxne hi hk),⟨C.own.objs.setL (by decide) hq hv hn t,?_,C.own.free.grown gs (C.freene hi hk),C.own.tp,C.own.nx⟩,C.ge⟩,(Below.refl _ _).grown gs hb fun k hk=>by injection hk with hk;omega⟩
 rw [List.map_set,C.own.obs]
theorem own_spot {w:World} {base gw n c j:Nat} {v:Value} {l:List Int} (h:OwnV 3 w base v (ivs l)) (hv:v = .slice (some ⟨gw,0,none⟩) n c) (hn:l.length=n) (hj:j < n) :
  (∃ x,l[j]? = some x∧w.cell? ⟨gw,j,none⟩=some (.int .i64 x))∧w.frozen? ⟨gw,j,none⟩=false:=by
 subst hv
 have h1:w.ownsRow base 3 1 (.slice (some ⟨gw,0,none⟩) n c) n (ivs l):=by
  have:=h
  unfold OwnV at this
  rw [ivs_length,hn] at this
  exact this
 have hx:l[j]? = some l[j]:=List.getElem?_eq_getElem (by omega)
 exact ⟨⟨l[j],hx,by rw [World.ownsRow.cellAt h1 j (by omega),ivs_get hx]⟩,World.ownsRow.frozenAt h1 j⟩
theorem CpAt.setT {w:World} {base g j:Nat} {s:HSl} {os:List (Ob × OSl)} {H:Hp} (C:CpAt w base g s os H) (hb:base≤w.heap.size) (hj:j < 4) (t:Int) :
  CpAt (w.setCell ⟨g,3+j,none⟩ (.int .i64 t)) base g s os { H with tp:=H.tp.set j t } ∧ Below base w (w.setCell ⟨g,3+j,none⟩ (.int .i64 t)):=by
 have gs:=grown_set w g (3+j) (.int .i64 t)
 have hneO : ∀ k,(Value.slice s.A s.n s.c).ownBlock=some k→some k≠some g:=fun k hk e=>by
  injection e with e
  subst e
  obtain ⟨c1,h1⟩:=row_type C.own.objs.row hk
  exact absurd (heap_types C.box h1) (by decide)
 have hneF : ∀ k,(Value.slice s.F s.m s.d).ownBlock=some k→some k≠some g:=fun k hk e=>by
  injection e with e
  subst e
  obtain ⟨c1,h1⟩:=row_type C.own.free hk
  exact absurd (heap_types C.box h1) (by decide)
 have hneI : ∀ k ∈ blocksOf os,some k≠some g:=fun k hk e=>by
  injection e with e
  subst e
  obtain ⟨p,hp,e2⟩:=mem_blocks.1 hk
  rcases e2 with e2 | e2
  ·exact C.boxne (C.own.objs.ints p hp).1 e2 rfl
  ·exact C.boxne (C.own.objs.ints p hp).2 e2 rfl
 have h4:=C.own.tp
 refine ⟨⟨?_,⟨C.own.objs.grown gs hneO hneI,C.own.obs,C.own.free.grown gs hneF,by simp only [List.length_set];exact h4,C.own.nx⟩,C.ge⟩,(Below.refl _ _).grown gs hb fun k hk=>by injection hk with hk;have:=C.ge;omega⟩
 have hs:=C.box.set (3+j) (.int .i64 t)
 have e:(hcs H s).set (3+j) (.int .i64 t)=hcs { H with tp:=H.tp.set j t } s:=by
  unfold hcs
  rw [tget_set (by omega),tget_set (by omega),tget_set (by omega),tget_set (by omega)]
  rcases (by omega:j=0∨j=1∨j=2∨j=3) with e | e | e | e <;> subst e <;> rfl
 rw [e] at hs
 exact hs
set_option maxHeartbeats 2000000 in
theorem aim_any (base g ga ja:Nat) (s:HSl) (os:List (Ob × OSl)) (H:Hp) (t:Int) (w:World) (C:CpAt w base g s os H) (hr:H.obs.Pairwise (fun a b=>a.hd < b.hd)) (hS:s.n≤1000) (hcell : ∃ u,w.cell? ⟨ga,ja,none⟩=some u) (hfr:w.frozen? ⟨ga,ja,none⟩=false) (hga:ga < w.heap.size) :
  Calls Tryz.prog 90 #[.pointer (some ⟨g,0,none⟩), .pointer (some ⟨ga,ja,none⟩), .int .i64 t] w
   fun e w'=>(Leads H t∧e = .returned (.int .i64 0) ∧ ∃ W,Grew w W∧w'=W.setCell ⟨ga,ja,none⟩ (.int .i64 t))∨(¬ Leads H t∧e = .returned (.int .i64 51)∧Grew w w'):=by
 have S:=mayLink_any H.obs t s.A s.n s.c w C.own.rd.obs hS hr
 rw [mayL_leads] at S
 obtain ⟨A,n,c,F,m,d⟩:=s
 have c1:=C.box.cell 1
 simp only [hcs,List.getElem?_cons_succ,List.getElem?_cons_zero] at c1
 obtain ⟨u,hu⟩:=hcell
 have FB:=Lib.hid fun (W:World) (gr:Grew w W)=>(⟨(gr.below.cell (p:=⟨ga,ja,none⟩) hga).trans hu,(gr.below.frozen (p:=⟨ga,ja,none⟩) hga).trans hfr⟩:W.cell? ⟨ga,ja,none⟩=some u∧W.frozen? ⟨ga,ja,none⟩=false)
 clear C hr hu hfr
 by_cases hL:Leads H t
 ·rw [decide_eq_true hL] at S
  have HL:=Lib.hid hL
  clear hL
  go_enter Tryz.func90,Tryz.ntmps90
  go_wp2_with (go_at_call 81;refine S.mono ?_;rintro e w2 ⟨rfl,g2⟩;obtain ⟨q1,q2⟩:=FB.out _ g2)
  go_ret
  exact .inl ⟨HL.out,rfl,w2,g2,rfl⟩
 ·rw [decide_eq_false hL] at S
  have HL:=Lib.hid hL
  clear hL
  go_enter Tryz.func90,Tryz.ntmps90
  go_wp2_with (go_at_call 81;refine S.mono ?_;rintro e w2 ⟨rfl,g2⟩)
  go_ret
  exact .inr ⟨HL.out,rfl,g2⟩
set_option maxHeartbeats 2000000 in
theorem write_any (base g:Nat) (s:HSl) (os:List (Ob × OSl)) (H:Hp) (o:Opn) (w:World) (C:CpAt w base g s os H) (hr:H.obs.Pairwise (fun a b=>a.hd < b.hd)) (hS:s.n≤1000) (hb:base≤w.heap.size) (ho:o.k=3) :
  Calls Tryz.prog 47 #[.pointer (some ⟨g,0,none⟩), .int .i64 o.h, .int .i64 o.i, .int .i64 o.v] w (MethPost w base g (doneH H o)):=by
 have S:=word_any base g s os H o.h o.i w C hr hS
 have HC:=Lib.hid C
 have HD:=Lib.hid (doneH_obj (h:=H) (o:=o) (by unfold isObj;omega))
 have HO:=Lib.hid ho
 clear C hr ho
 go_enter Tryz.func47,Tryz.ntmps47
 go_upto_region 2 with (go_at_call 51;refine S.mono ?_;rintro e w2 ⟨g2,⟨hf,rfl⟩ | ⟨p,q,hf,hq,⟨hi,rfl⟩ | ⟨j,gw,n,c,hij,hj,hn,hv,hgw,rfl⟩⟩⟩)
 ·have Hr:=Lib.hid (show doneH H o=(H,51,0) by rw [HD.out,hf])
  clear hf
  go_wp2_with fail
  go_ret
  rw [Hr.out]
  exact ⟨s,os,rfl,HC.out.below g2.below,g2.below.mono hb⟩
 ·have Hr:=Lib.hid (show doneH H o=(H,52,0) by rw [HD.out,hf];simp only;rw [objH_write HO.out,if_neg (by simpa using hi)])
  clear hf hi
  go_wp2_with fail
  go_ret
  rw [Hr.out]
  exact ⟨s,os,rfl,HC.out.below g2.below,g2.below.mono hb⟩
 ·simp only [Bool.false_eq_true,if_false] at hn hv
  have C2:=HC.out.below g2.below
  have hii:=(C2.own.objs.ints q (List.mem_of_getElem? hq)).1
  obtain ⟨⟨x,_,hcell⟩,hfrz⟩:=own_spot hii hv hn hj
  have Hs:=Lib.hid (C2.setW (j:=j) (Nat.le_trans hb g2.below.size) hq hv hn hgw o.v)
  have Hr:=Lib.hid (show doneH H o=({ H with obs:=H.obs.set p { q.1 with ws:=q.1.ws.set j o.v } },0,0) by rw [HD.out,hf];simp only;rw [objH_write HO.out,if_pos (by omega),hij,Int.toNat_natCast])
  clear hf hn hv hii C2 hij hq
  go_wp2_with fail
  go_ret
  rw [Hr.out]
  exact ⟨s,_,rfl,Hs.out.1,(g2.below.mono hb).trans Hs.out.2⟩
set_option maxHeartbeats 2000000 in
theorem lead_any (base g:Nat) (s:HSl) (os:List (Ob × OSl)) (H:Hp) (o:Opn) (w:World) (C:CpAt w base g s os H) (hr:H.obs.Pairwise (fun a b=>a.hd < b.hd)) (hS:s.n≤1000) (hb:base≤w.heap.size) (ho:o.k=4) :
  Calls Tryz.prog 48 #[.pointer (some ⟨g,0,none⟩), .int .i64 o.h, .int .i64 o.i, .int .i64 o.t] w (MethPost w base g (doneH H o)):=by
 have S:=link_any base g s os H o.h o.i w C hr hS
 have HC:=Lib.hid C
 have HD:=Lib.hid (doneH_obj (h:=H) (o:=o) (by unfold isObj;omega))
 have HO:=Lib.hid ho
 have Hrr:=Lib.hid hr
 clear C hr ho
 go_enter Tryz.func48,Tryz.ntmps48
 go_upto_region 2 with (go_at_call 52;refine S.mono ?_;rintro e w2 ⟨g2,⟨hf,rfl⟩ | ⟨p,q,hf,hq,⟨hi,rfl⟩ | ⟨j,gw,n,c,hij,hj,hn,hv,hgw,rfl⟩⟩⟩)
 ·have Hr:=Lib.hid (show doneH H o=(H,51,0) by rw [HD.out,hf])
  clear hf
  go_wp2_with fail
  go_ret
  rw [Hr.out]
  exact ⟨s,os,rfl,HC.out.below g2.below,g2.below.mono hb⟩
 ·have Hr:=Lib.hid (show doneH H o=(H,52,0) by rw [HD.out,hf];simp only;rw [objH_link HO.out,if_neg (by simpa using hi)])
  clear hf hi
  go_wp2_with fail
  go_ret
  rw [Hr.out]
  exact ⟨s,os,rfl,HC.out.below g2.below,g2.below.mono hb⟩
 ·simp only [if_true] at hn hv
  have C2:=HC.out.below g2.below
  have hii:=(C2.own.objs.ints q (List.mem_of_getElem? hq)).2
  obtain ⟨⟨x,_,hcell⟩,hfrz⟩:=own_spot hii hv hn hj
  have hgl:gw < w2.heap.size:=(hii.lt gw (by rw [hv];rfl)).2
  have K:=aim_any base g gw j s os H o.t w2 C2 Hrr.out hS ⟨_,hcell⟩ hfrz hgl
  have Hs:=Lib.hid fun (W:World) (gr:Grew w2 W)=>(C2.below gr.below).setL (j:=j) (Nat.le_trans hb (g2.trans gr).below.size) hq hv hn hgw o.t
  have Hr:=Lib.hid (show doneH H o=if Leads H o.t then ({ H with obs:=H.obs.set p { q.1 with ls:=q.1.ls.set j o.t } },0,0) else (H,51,0) by rw [HD.out,hf];simp only;rw [objH_link HO.out,if_pos (by omega),hij,Int.toNat_natCast])
  clear hf hn hv hii C2 hij hq hcell hfrz hgl
  go_wp2_with (go_at_call 90;refine K.mono ?_;rintro e w3 (⟨hL,rfl,W,gr,rfl⟩ | ⟨hL,rfl,gr⟩))
  ·go_ret
   rw [Hr.out,if_pos hL]
   exact ⟨s,_,rfl,(Hs.out _ gr).1,((g2.trans gr).below.mono hb).trans (Hs.out _ gr).2⟩
  ·go_ret
   rw [Hr.out,if_neg hL]
   exact ⟨s,os,rfl,HC.out.below (g2.trans gr).below,(g2.trans gr).below.mono hb⟩
set_option maxHeartbeats 2000000 in
theorem leadTop_any (base g:Nat) (s:HSl) (os:List (Ob × OSl)) (H:Hp) (o:Opn) (w:World) (C:CpAt w base g s os H) (hr:H.obs.Pairwise (fun a b=>a.hd < b.hd)) (hS:s.n≤1000) (hb:base≤w.heap.size) (ho:o.k=5) :
  Calls Tryz.prog 49 #[.pointer (some ⟨g,0,none⟩), .int .i64 o.i, .int .i64 o.t] w (MethPost w base g (doneH H o)):=by
 have S:=top_any g o.i w
 have HC:=Lib.hid C
 have HD:=Lib.hid (doneH_tops (h:=H) (o:=o) (.inl ho))
 have HO:=Lib.hid ho
 have Hrr:=Lib.hid hr
 clear C hr ho
 go_enter Tryz.func49,Tryz.ntmps49
 go_upto_region 2 with (go_at_call 53;refine S.mono ?_;rintro e w2 ⟨rfl,⟨hi,rfl⟩ | ⟨j,hij,hj,rfl⟩⟩)
 ·have Hr:=Lib.hid (show doneH H o=(H,52,0) by rw [HD.out];exact if_pos hi)
  clear hi
  go_wp2_with fail
  go_ret
  rw [Hr.out]
  exact ⟨s,os,rfl,HC.out,Below.refl _ _⟩
 ·have hgl:g < w.heap.size:=HC.out.box.lt
  have hcell : ∃ u,w.cell? ⟨g,3+j,none⟩=some u:=by
   rw [HC.out.box.cell]
   exact ⟨_,List.getElem?_eq_getElem (by simp [hcs];omega)⟩
  have K:=aim_any base g g (3+j) s os H o.t w HC.out Hrr.out hS hcell (HC.out.box.free _) hgl
  have Hs:=Lib.hid fun (W:World) (gr:Grew w W)=>(HC.out.below gr.below).setT (j:=j) (Nat.le_trans hb gr.below.size) hj o.t
  have Hr:=Lib.hid (show doneH H o=if Leads H o.t then ({ H with tp:=H.tp.set j o.t },0,0) else (H,51,0) by
   rw [HD.out]
   unfold topH
   rw [if_neg (by omega),if_neg (by rw [HO.out];omega),hij,Int.toNat_natCast])
  clear hij hcell hgl
  go_wp2_with (go_at_call 90;refine K.mono ?_;rintro e w3 (⟨hL,rfl,W,gr,rfl⟩ | ⟨hL,rfl,gr⟩))
  ·go_ret
   rw [Hr.out,if_pos hL]
   exact ⟨s,os,rfl,(Hs.out _ gr).1,(gr.below.mono hb).trans (Hs.out _ gr).2⟩
  ·go_ret
   rw [Hr.out,if_neg hL]
   exact ⟨s,os,rfl,HC.out.below gr.below,gr.below.mono hb⟩
end Go.Proofs.YtcodpnbemdflcaaGreatDoor

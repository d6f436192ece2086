/-
  Package redo: what Append does with the disk (its function literal), wherever the ring begins: a contract. Written ahead for stage 9.
  Package redo: Append, where there is room, wherever the ring begins: a contract at a disk that has not stopped. Written ahead for stage 9.
-/
import Derived.Test.YtcodpnbemdflcaaGreatDoorTg39
namespace Go.Proofs.YtcodpnbemdflcaaGreatDoor
open Go.RowKit
def wrG (S:Dk) (fr n st U:Nat) (c:Nat→Ct):Nat→Dk
 | 0=>S
 | j+1=>setS (wrG S fr n st U c j) (fr+1+(st+(U+j)) % n) (c j).laid
theorem Goes.wrG {S:Dk} (h:Goes S) (fr n st U:Nat) (c:Nat→Ct) : ∀ j,Goes (wrG S fr n st U c j)
 | 0=>h
 | j+1=>(Goes.wrG h fr n st U c j).set _ _
set_option maxRecDepth 20000 in
set_option maxHeartbeats 2000000 in
theorem append1_all {w:World} {g p q r n fr se ag fi st m U sb db lb ub:Nat} {As:Option Addr} {cs:Nat} {t:List UInt8} {S:Dk} (hs:Whole w sb 3 [.int .i64 ((np t.length:Nat):Int)]) (hdb:Whole w db 9 [.string ⟨t.toArray⟩]) (hlb:Whole w lb 77 [.pointer (some ⟨g,0,none⟩)]) (hub:Whole w ub 3 [.int .i64 (U:Int)])
  (hL:LAt w g p fr se ag fi st (.slice As m cs)) (hd:DAt w p q r n S) (hg:Goes S) (hx : ∀ k,(k=sb∨k=db∨k=lb∨k=ub∨k=g) → ¬ ds p q r k) (hst:st≤1024) (h1:8≤se) (h2:se≤1024) (h3:fr+se≤n) (ht:t.length≤1024) (hU:U+np t.length≤se - 1) (hag:ag≤1000000) (hfi:fi+m≤1000000) :
  Calls Tryz.prog 95 #[.pointer (some ⟨sb,0,none⟩), .pointer (some ⟨db,0,none⟩), .pointer (some ⟨lb,0,none⟩), .pointer (some ⟨ub,0,none⟩)] w (Did w p q r n (wrG S fr (se - 1) st U (pc ag (fi+m) t) (np t.length))):=by
 have s0:=hs.cell 0
 simp only [List.getElem?_cons_zero] at s0
 have hn:=hd.most
 have HDB:=Lib.hid hdb
 have HLB:=Lib.hid hlb
 have HUB:=Lib.hid hub
 have HL:=Lib.hid hL
 have HG:=Lib.hid hg
 have HX:=Lib.hid hx
 have HD:=Lib.hid hd
 obtain ⟨N,hN⟩ : ∃ N,N=np t.length:=⟨_,rfl⟩
 have hNle:N≤29:=by rw [hN];unfold np;omega
 rw [← hN] at s0 hU ⊢
 have HN:=Lib.hid hN
 clear hs hdb hlb hub hL hd hg hx hN
 go_enter Tryz.func95,Tryz.ntmps95
 go_wp2
 clear s0
 go_loopw [7] (fun i wr => ∃ j:Nat,j≤N∧i = .int .i64 (j:Int)∧DAt wr p q r n (wrG S fr (se - 1) st U (pc ag (fi+m) t) j)∧Oth (ds p q r) w wr) (fun i _=>N - (Go.RowKit.intOf i).toNat)
 case atStart=>exact ⟨0,Nat.zero_le _,rfl,HD.out,Oth.refl _ _⟩
 case round =>
  obtain ⟨j,hj,rfl,hDj,hO⟩:=hrel
  by_cases hlt:j < N
  ·have kd:=HDB.out.keep (hO.block db HDB.out.lt (HX.out db (by simp)))
   have kl:=HLB.out.keep (hO.block lb HLB.out.lt (HX.out lb (by simp)))
   have ku:=HUB.out.keep (hO.block ub HUB.out.lt (HX.out ub (by simp)))
   have hL:=HL.out.oth hO (HX.out g (by simp))
   have d0:=kd.cell 0
   simp only [List.getElem?_cons_zero] at d0
   obtain ⟨s,hs⟩ : ∃ s,s=ByteArray.mk t.toArray:=⟨_,rfl⟩
   have hsz:s.size=t.length:=by
    rw [hs]
    show t.toArray.size=_
    simp
   have htl:(j:Int)*36≤(s.size:Int):=by
    have:=HN.out
    unfold np at this
    rw [hsz]
    omega
   have hsl:s.size≤1024:=by omega
   rw [← hs] at d0
   have KD:=Lib.hid kd
   have KL:=Lib.hid kl
   have KU:=Lib.hid ku
   have HLj:=Lib.hid hL
   have HDj:=Lib.hid hDj
   have HO:=Lib.hid hO
   have Hs:=Lib.hid (And.intro hs hsz)
   clear kd kl ku hL hDj hO hs hsz
   obtain ⟨X,hX⟩ : ∃ X,X=ByteArray.mk ((t.drop (36*j)).take 36).toArray:=⟨_,rfl⟩
   have HXX:=Lib.hid hX
   have e1 : ¬ ((s.size:Int) < ((j:Int)+1)*36)→s.extract (j*36) ((j+1)*36)=X:=fun h=>by
    rw [HXX.out,Hs.out.1]
    exact part_str t j _ (.inl rfl)
   have e2:((s.size:Int) < ((j:Int)+1)*36)→s.extract (j*36) s.size=X:=fun h=>by
    rw [HXX.out,Hs.out.2,Hs.out.1]
    exact part_str t j _ (.inr ⟨rfl,by have:=Hs.out.2;omega⟩)
   have E1:=Lib.hid e1
   have E2:=Lib.hid e2
   clear e1 e2 hX
   have H31:=Lib.hid (And.intro h1 (And.intro h2 (And.intro h3 (And.intro ht (And.intro hag hfi)))))
   by_cases hmin:(s.size:Int) < ((j:Int)+1)*36
   all_goals
    go_upto_region 4 with (fail)
    first | rw [E1.out hmin] | rw [E2.out hmin]
    clear E1 E2 hmin
    have hK:(st+(U+j)) % (se - 1) < se - 1:=Nat.mod_lt _ (by omega)
    have hw:IntKind.i64.wrap ((U:Int)+(j:Int))=(U:Int)+(j:Int):=IntWalk.i64_in _ (by omega)
    have hpl : ∀ W,LAt W g p fr se ag fi st (.slice As m cs)→Calls Tryz.prog 97 #[.pointer (some ⟨g,0,none⟩), .int .i64 ((U:Int)+(j:Int))] W fun e w'=>e = .returned (.int .i64 ((fr+1+(st+(U+j)) % (se - 1):Nat):Int))∧Below W.heap.size W w':=fun W h =>
     place_log h (by omega) h2 (by omega) hst (U+j) (by omega)
    have hnx : ∀ W,LAt W g p fr se ag fi st (.slice As m cs)→Calls Tryz.prog 74 #[.pointer (some ⟨g,0,none⟩)] W fun e w'=>e = .returned (.int .i64 ((fi+m:Nat):Int))∧Below W.heap.size W w':=fun W h=>lnext_any h (by omega)
    obtain ⟨T0,hT0⟩ : ∃ T0,T0=wrG S fr (se - 1) st U (pc ag (fi+m) t) j:=⟨_,rfl⟩
    obtain ⟨T1,hT1⟩ : ∃ T1,T1=wrG S fr (se - 1) st U (pc ag (fi+m) t) (j+1):=⟨_,rfl⟩
    have hwr : ∀ W,LAt W g p fr se ag fi st (.slice As m cs)→DAt W p q r n T0→Calls Tryz.prog 96 #[.pointer (some ⟨g,0,none⟩), .int .i64 ((fr+1+(st+(U+j)) % (se - 1):Nat):Int), .agg #[.int .i64 2, .int .i64 (ag:Int), .int .i64 ((fi+m:Nat):Int), .int .i64 (j:Int), .int .i64 (s.size:Int), .string X]] W (Did W p q r n T1):=fun W h hD=>by
     rw [hT0] at hD
     rw [Hs.out.2,HXX.out,hT1]
     exact write_log h hD (HG.out.wrG _ _ _ _ _ j) (by omega) (pc_ok (by omega) (by omega) ht (by omega))
    obtain ⟨a,ha⟩ : ∃ a,a=fr+1+(st+(U+j)) % (se - 1):=⟨_,rfl⟩
    obtain ⟨nu,hnu⟩ : ∃ nu,nu=fi+m:=⟨_,rfl⟩
    rw [← ha] at hpl hwr
    rw [← hnu] at hnx hwr
    have HDt:=Lib.hid (show DAt wr p q r n T0 by rw [hT0];exact HDj.out)
    have HT1:=Lib.hid hT1
    clear hT0 hT1
    have HPL:=Lib.hid hpl
    have HNX:=Lib.hid hnx
    have HWR:=Lib.hid hwr
    have S1:=Lib.hid (And.intro (show wr.drew.cell? ⟨lb,0,none⟩=some (.pointer (some ⟨g,0,none⟩)) from KL.out.cell 0) (And.intro (show wr.drew.cell? ⟨ub,0,none⟩=some (.int .i64 (U:Int)) from KU.out.cell 0) (And.intro (show wr.drew.cell? ⟨g,3,none⟩=some (.int .i64 (ag:Int)) from HLj.out.c3) (show wr.drew.cell? ⟨db,0,none⟩=some (.string s) from (KD.out.cell 0).trans (by rw [Hs.out.1];rfl)))))
    have B1:=Lib.hid (show Below wr.heap.size wr wr.drew from (Below.refl _ _).drew)
    clear hpl hnx hwr hK d0 ha hnu
    go_region_held3 (fun w'=>w'.cell? ⟨lb,0,none⟩=some (.pointer (some ⟨g,0,none⟩))∧w'.cell? ⟨ub,0,none⟩=some (.int .i64 (U:Int))∧w'.cell? ⟨g,3,none⟩=some (.int .i64 (ag:Int))∧w'.cell? ⟨db,0,none⟩=some (.string s)) (first | exact S1.out | exact S2.out | exact S3.out | exact S4.out) (first | (go_at_call 97;refine (HPL.out _ (HLj.out.below B1.out)).mono ?_;rintro e w2 ⟨rfl,hb2⟩;have B2:=Lib.hid (B1.out.trans (hb2.mono B1.out.size));have S2:=Lib.hid (And.intro (show w2.cell? ⟨lb,0,none⟩=some (.pointer (some ⟨g,0,none⟩)) from (KL.out.below B2.out).cell 0) (And.intro (show w2.cell? ⟨ub,0,none⟩=some (.int .i64 (U:Int)) from (KU.out.below B2.out).cell 0) (And.intro (HLj.out.below B2.out).c3 (show w2.cell? ⟨db,0,none⟩=some (.string s) from ((KD.out.below B2.out).cell 0).trans (by rw [Hs.out.1];rfl)))));clear hb2) | (go_at_call 74;refine (HNX.out _ (HLj.out.below B2.out)).mono ?_;rintro e w3 ⟨rfl,hb3⟩;have B3:=Lib.hid (B2.out.trans (hb3.mono B2.out.size));have S3:=Lib.hid (And.intro (show w3.cell? ⟨lb,0,none⟩=some (.pointer (some ⟨g,0,none⟩)) from (KL.out.below B3.out).cell 0) (And.intro (show w3.cell? ⟨ub,0,none⟩=some (.int .i64 (U:Int)) from (KU.out.below B3.out).cell 0) (And.intro (HLj.out.below B3.out).c3 (show w3.cell? ⟨db,0,none⟩=some (.string s) from ((KD.out.below B3.out).cell 0).trans (by rw [Hs.out.1];rfl)))));clear hb3) | (go_at_call 96;refine (HWR.out _ (HLj.out.below B3.out) (HDt.out.below B3.out)).mono ?_;rintro e w4 ⟨rfl,hD4,hO4⟩;have HD4:=Lib.hid hD4;have HO4:=Lib.hid ((Oth.of_below B3.out (ds p q r)).trans hO4);have S4:=Lib.hid (And.intro (show w4.cell? ⟨lb,0,none⟩=some (.pointer (some ⟨g,0,none⟩)) from (KL.out.keep (HO4.out.block lb KL.out.lt (HX.out lb (by simp)))).cell 0) (And.intro (show w4.cell? ⟨ub,0,none⟩=some (.int .i64 (U:Int)) from (KU.out.keep (HO4.out.block ub KU.out.lt (HX.out ub (by simp)))).cell 0) (And.intro (HLj.out.oth HO4.out (HX.out g (by simp))).c3 (show w4.cell? ⟨db,0,none⟩=some (.string s) from ((KD.out.keep (HO4.out.block db KD.out.lt (HX.out db (by simp)))).cell 0).trans (by rw [Hs.out.1];rfl)))));clear hD4 hO4))
    all_goals
     have HFF:=Lib.hid (And.intro HD4.out (HO.out.trans HO4.out))
     clear S1 B1 S2 B2 S3 B3 S4 HD4 HO4 HPL HNX HWR HXX KD KL KU HLj
     go_wp2
     go_roundw
     case rel=>exact ⟨j+1,hlt,by go_num,by rw [← HT1.out];exact HFF.out.1,HFF.out.2⟩
     case measure=>simp [Go.RowKit.intOf];omega
  ·obtain rfl:j=N:=by omega
   clear hlt
   have HF:=Lib.hid (And.intro hDj hO)
   clear hDj hO
   go_wp2
   go_end0
   exact ⟨rfl,HF.out.1,HF.out.2⟩
end Go.Proofs.YtcodpnbemdflcaaGreatDoor
namespace Go.Proofs.YtcodpnbemdflcaaGreatDoor
open Go.RowKit
def AgPost (w:World) (base g p q r n fr se ag fi st:Nat) (v0:Value) (T:List (List UInt8)) (t:List UInt8) (S:Dk) (e:Ending) (w':World):Prop :=
 ∃ vs,e = .returned (.int .i64 0)∧LAt w' g p fr se ag fi st vs∧OwnV 3 w' base vs (nts (szs (T ++ [t]) (T ++ [t]).length))∧DAt w' p q r n (wrG S fr (se - 1) st (off T T.length) (pc ag (fi+T.length) t) (np t.length))∧Oth (fun k=>k=g∨ds p q r k∨v0.ownBlock=some k) w w' ∧ ∀ k,vs.ownBlock=some k→v0.ownBlock=some k∨w.heap.size≤k
theorem Oth.fresh {X Y:Nat→Prop} {a b c:World} (h:Oth X a b) (k:Oth Y b c) (hY : ∀ i,i < a.heap.size→Y i→X i):Oth X a c :=
 ⟨k.os.trans h.os,k.tape.trans h.tape,k.output.trans h.output,Nat.le_trans h.size k.size,fun i hi hx=>(k.block i (Nat.lt_of_lt_of_le hi h.size) fun hy=>hx (hY i hi hy)).trans (h.block i hi hx)⟩
theorem Oth.of_grownO {X:Nat→Prop} {w w':World} {r:Option Nat} (h:w.grownBy w' r) (hr : ∀ k,r=some k→X k):Oth X w w' :=
 ⟨h.os,h.tape,h.output,h.size,fun k hk hx=>h.block k hk (fun e=>hx (hr k e.symm))⟩
set_option maxRecDepth 20000 in
set_option maxHeartbeats 16000000 in
theorem append_all {w:World} {base g p q r n fr se ag fi st:Nat} {vs:Value} {T:List (List UInt8)} {t:List UInt8} {S:Dk} (hL:LAt w g p fr se ag fi st vs) (hS:OwnV 3 w base vs (nts (szs T T.length))) (hd:DAt w p q r n S) (hg:Goes S) (hbase:base≤w.heap.size) (hgx : ¬ ds p q r g) (hsd : ∀ k,vs.ownBlock=some k → ¬ ds p q r k)
  (hst:st≤1024) (h1:8≤se) (h2:se≤1024) (h3:fr+se≤n) (ht:t.length≤1024) (hU:off T T.length+np t.length≤se - 1) (hag:ag≤1000000) (hfi:fi+T.length≤1000000) (hTl:T.length≤1000) (hT : ∀ u ∈ T,u.length≤1024) :
  Calls Tryz.prog 55 #[.pointer (some ⟨g,0,none⟩), .string ⟨t.toArray⟩] w (AgPost w base g p q r n fr se ag fi st vs T t S):=by
 obtain ⟨As,cs,rfl⟩:=slice_own hS (n:=T.length) (szs_all T)
 have hn:=hd.most
 obtain ⟨A',c',hvs,_,_,hrd⟩:=hS.shape (szs_all T)
 injection hvs with i1 i2 i3
 subst i1 i3
 have hsx : ∀ x ∈ szs T T.length,x≤100:=fun x hx=>by
  simp only [szs,List.mem_map] at hx
  obtain ⟨u,hu,rfl⟩:=hx
  have:=hT u (List.mem_of_mem_take hu)
  unfold np
  omega
 obtain ⟨s,hs⟩ : ∃ s,s=ByteArray.mk t.toArray:=⟨_,rfl⟩
 have hsz:s.size=t.length:=by
  rw [hs]
  show t.toArray.size=_
  simp
 rw [← hs]
 have hs1:(s.size:Int)≤1024:=by omega
 obtain ⟨U,hUU⟩ : ∃ U,U=off T T.length:=⟨_,rfl⟩
 obtain ⟨N,hNN⟩ : ∃ N,N=np t.length:=⟨_,rfl⟩
 have hNle:N≤29:=by rw [hNN];unfold np;omega
 have hUN:U+N≤1023:=by omega
 have kn:=fun W (hb:Below w.heap.size w W)=>none_any (hL.below hb)
 have ku : ∀ W,Below w.heap.size w W→Calls Tryz.prog 92 #[.pointer (some ⟨g,0,none⟩)] W fun e w'=>e = .returned (.int .i64 (U:Int))∧w'=W:=fun W hb=>by
  rw [hUU, ← off_all]
  exact used_any (hL.below hb) (hrd.below hb) (by omega) hsx
 have kp : ∀ W,Calls Tryz.prog 93 #[.int .i64 (s.size:Int)] W fun e w'=>e = .returned (.int .i64 (N:Int))∧w'=W:=fun W=>by rw [hNN,hsz];exact pieces_any t.length (by omega) W
 have HL:=Lib.hid hL
 have HS:=Lib.hid hS
 have HD:=Lib.hid hd
 have HG:=Lib.hid hg
 have Hb:=Lib.hid (And.intro hbase (And.intro hgx hsd))
 have H3:=Lib.hid (And.intro hU (And.intro hT (And.intro hTl (And.intro hfi (And.intro hag (And.intro ht (And.intro hUU (And.intro hNN (And.intro hs hsz)))))))))
 have Kn:=Lib.hid kn
 have Ku:=Lib.hid ku
 have Kp:=Lib.hid kp
 clear hL hS hd hg hrd kn ku kp hU hT hTl hfi hag ht hUU hNN hs hsz hsx hbase hgx hsd
 go_enter Tryz.func55,Tryz.ntmps55
 go_upto_region 5 with (go_at_call 57;refine (Kn.out _ (bel_al (bel_al (Below.refl _ _) _) _)).mono ?_;rintro e w1 ⟨rfl,hw1⟩;subst hw1)
 have kl:=(Whole.new w #[.pointer (some ⟨g,0,none⟩)] 77).alloc (.cells #[.string s] 9)
 have kd:=Whole.new (w.alloc (.cells #[.pointer (some ⟨g,0,none⟩)] 77)) #[.string s] 9
 have hB2:Below w.heap.size w ((w.alloc (.cells #[.pointer (some ⟨g,0,none⟩)] 77)).alloc (.cells #[.string s] 9)):=bel_al (bel_al (Below.refl _ _) _) _
 have hs2:((w.alloc (.cells #[.pointer (some ⟨g,0,none⟩)] 77)).alloc (.cells #[.string s] 9)).heap.size=w.heap.size+1+1:=by simp
 rw [show (w.alloc (.cells #[.pointer (some ⟨g,0,none⟩)] 77)).heap.size=w.heap.size+1 by simp] at kd
 generalize (w.alloc (.cells #[.pointer (some ⟨g,0,none⟩)] 77)).alloc (.cells #[.string s] 9)=W at kl kd hB2 hs2 ⊢
 have HK:=Lib.hid (And.intro kl (And.intro kd (And.intro hB2 hs2)))
 have l0:W.cell? ⟨w.heap.size,0,none⟩=some (.pointer (some ⟨g,0,none⟩)):=kl.cell 0
 have l1 : ∀ o,(W.alloc o).cell? ⟨w.heap.size,0,none⟩=some (.pointer (some ⟨g,0,none⟩)):=fun o=>(kl.alloc o).cell 0
 have l2 : ∀ o o',((W.alloc o).alloc o').cell? ⟨w.heap.size,0,none⟩=some (.pointer (some ⟨g,0,none⟩)):=fun o o'=>((kl.alloc o).alloc o').cell 0
 have m0:W.cell? ⟨w.heap.size+1,0,none⟩=some (.string s):=kd.cell 0
 have m1 : ∀ o,(W.alloc o).cell? ⟨w.heap.size+1,0,none⟩=some (.string s):=fun o=>(kd.alloc o).cell 0
 have m2 : ∀ o o',((W.alloc o).alloc o').cell? ⟨w.heap.size+1,0,none⟩=some (.string s):=fun o o'=>((kd.alloc o).alloc o').cell 0
 have kA:Whole ((W.alloc (.cells #[.int .i64 (U:Int)] 3)).alloc (.cells #[.int .i64 (N:Int)] 3)) (W.heap.size+1) 3 [.int .i64 (N:Int)]:=by
  have:=Whole.new (W.alloc (.cells #[.int .i64 (U:Int)] 3)) #[.int .i64 (N:Int)] 3
  rwa [show (W.alloc (.cells #[.int .i64 (U:Int)] 3)).heap.size=W.heap.size+1 by simp] at this
 have kB:Whole ((W.alloc (.cells #[.int .i64 (N:Int)] 3)).alloc (.cells #[.int .i64 (U:Int)] 3)) (W.heap.size+1) 3 [.int .i64 (U:Int)]:=by
  have:=Whole.new (W.alloc (.cells #[.int .i64 (N:Int)] 3)) #[.int .i64 (U:Int)] 3
  rwa [show (W.alloc (.cells #[.int .i64 (N:Int)] 3)).heap.size=W.heap.size+1 by simp] at this
 have FA:Hid (∃ ub sb,Value.pointer (some ⟨W.heap.size,0,none⟩) = .pointer (some ⟨ub,0,none⟩)∧Value.pointer (some ⟨W.heap.size+1,0,none⟩) = .pointer (some ⟨sb,0,none⟩)∧Whole ((W.alloc (.cells #[.int .i64 (U:Int)] 3)).alloc (.cells #[.int .i64 (N:Int)] 3)).drew ub 3 [.int .i64 (U:Int)]∧Whole ((W.alloc (.cells #[.int .i64 (U:Int)] 3)).alloc (.cells #[.int .i64 (N:Int)] 3)).drew sb 3 [.int .i64 (N:Int)]∧Below W.heap.size W ((W.alloc (.cells #[.int .i64 (U:Int)] 3)).alloc (.cells #[.int .i64 (N:Int)] 3)).drew∧W.heap.size≤ub∧W.heap.size≤sb∧ub≠sb) :=
  Lib.hid ⟨W.heap.size,W.heap.size+1,rfl,rfl,((Whole.new W #[.int .i64 (U:Int)] 3).alloc _).drew,kA.drew,(bel_al (bel_al (Below.refl _ _) _) _).drew,Nat.le_refl _,Nat.le_succ _,by omega⟩
 have FB:Hid (∃ ub sb,Value.pointer (some ⟨W.heap.size+1,0,none⟩) = .pointer (some ⟨ub,0,none⟩)∧Value.pointer (some ⟨W.heap.size,0,none⟩) = .pointer (some ⟨sb,0,none⟩)∧Whole ((W.alloc (.cells #[.int .i64 (N:Int)] 3)).alloc (.cells #[.int .i64 (U:Int)] 3)).drew ub 3 [.int .i64 (U:Int)]∧Whole ((W.alloc (.cells #[.int .i64 (N:Int)] 3)).alloc (.cells #[.int .i64 (U:Int)] 3)).drew sb 3 [.int .i64 (N:Int)]∧Below W.heap.size W ((W.alloc (.cells #[.int .i64 (N:Int)] 3)).alloc (.cells #[.int .i64 (U:Int)] 3)).drew∧W.heap.size≤ub∧W.heap.size≤sb∧ub≠sb) :=
  Lib.hid ⟨W.heap.size+1,W.heap.size,rfl,rfl,kB.drew,((Whole.new W #[.int .i64 (N:Int)] 3).alloc _).drew,(bel_al (bel_al (Below.refl _ _) _) _).drew,Nat.le_succ _,Nat.le_refl _,by omega⟩
 clear kl kd hB2 hs2 kA kB
 go_cut [5,6] (fun u v wc => ∃ ub sb,u = .pointer (some ⟨ub,0,none⟩)∧v = .pointer (some ⟨sb,0,none⟩)∧Whole wc ub 3 [.int .i64 (U:Int)]∧Whole wc sb 3 [.int .i64 (N:Int)]∧Below W.heap.size W wc∧W.heap.size≤ub∧W.heap.size≤sb∧ub≠sb)
 case first =>
  have S0:=Lib.hid (And.intro l0 m0)
  have S1:=Lib.hid (fun o=>And.intro (l1 o) (m1 o))
  have S2:=Lib.hid (fun o o'=>And.intro (l2 o o') (m2 o o'))
  clear l0 l1 l2 m0 m1 m2
  go_region_held3 (fun w'=>w'.cell? ⟨w.heap.size,0,none⟩=some (.pointer (some ⟨g,0,none⟩))∧w'.cell? ⟨w.heap.size+1,0,none⟩=some (.string s)) (first | exact S0.out | exact S1.out _ | exact S2.out _ _) (first | (go_at_call 92;refine (Ku.out _ (by repeat (first | exact HK.out.2.2.1 | apply Below.drew | apply bel_al))).mono ?_;rintro e w3 ⟨rfl,hw3⟩;subst hw3) | (go_at_call 93;refine (Kp.out _).mono ?_;rintro e w3 ⟨rfl,hw3⟩;subst hw3))
  all_goals (
   go_wp2_with fail
   go_meet)
  all_goals first | exact FA.out | exact FB.out
 case rest =>
  obtain ⟨ub,sb,rfl,rfl,hub,hsb,hbc,hul,hsl,hne⟩:=hcut
  clear FA FB l0 l1 l2 m0 m1 m2
  obtain ⟨kl,kd,hB2,hs2⟩:=HK.out
  have kl:=kl.below hbc
  have kd:=kd.below hbc
  have hBc:=hB2.trans (hbc.mono hB2.size)
  have hlc:=HL.out.below hBc
  have hdc:=HD.out.below hBc
  have hsc:=HS.out.below hBc
  have krg:=fun nq=>ring_any (w:=wc.drewN nq) (g:=g) (p:=p) (fr:=fr) (se:=se) (ag:=ag) (fi:=fi) (st:=st) (z := .slice As T.length cs) hlc (by omega) h2
  have u0:=hub.cell 0
  have s0:=hsb.cell 0
  have l0:=kl.cell 0
  simp only [List.getElem?_cons_zero] at u0 s0 l0
  have hcmp:decide (((se - 1:Nat):Int) < (U:Int)+(N:Int))=false:=by
   have h:=H3.out.1
   have e1:=H3.out.2.2.2.2.2.2.1
   have e2:=H3.out.2.2.2.2.2.2.2.1
   rw [← e1, ← e2] at h
   simp
   omega
  have hcmp2 : ¬ (((se - 1:Nat):Int) < (U:Int)+(N:Int)):=by simpa using hcmp
  have hww:IntKind.i64.wrap ((U:Int)+(N:Int))=(U:Int)+(N:Int):=IntWalk.i64_in _ (by omega)
  have HC:=Lib.hid (And.intro hub (And.intro hsb (And.intro kl (And.intro kd (And.intro hBc (And.intro hlc (And.intro hdc hsc)))))))
  have HN:=Lib.hid (And.intro hul (And.intro hsl (And.intro hne (And.intro hs2 hbc.size))))
  clear hub hsb hbc hul hsl hne kl kd hB2 hs2 hBc hlc hdc hsc HK
  go_wp2
  go_quiet ((go_at_call 94;exact Calls.quiet_of_same (krg _)))
  have hbn:Below wc.heap.size wc (wc.drewN nq):=below_drewN (Below.refl _ _) nq
  obtain ⟨hub,hsb,kl,kd,hBc,hlc,hdc,hsc⟩:=HC.out
  have hub:=hub.below hbn
  have hsb:=hsb.below hbn
  have kl:=kl.below hbn
  have kd:=kd.below hbn
  have hBc:=hBc.trans (hbn.mono hBc.size)
  have hlc:=hlc.below hbn
  have hdc:=hdc.below hbn
  have hsc:=hsc.below hbn
  have hsz5:(wc.drewN nq).heap.size=wc.heap.size:=rfl
  clear HC hbn krg u0 s0 l0
  generalize wc.drewN nq=V at hub hsb kl kd hBc hlc hdc hsc hsz5 ⊢
  obtain ⟨hul,hsl,hne,hs2,hcl⟩:=HN.out
  obtain ⟨hU,hT,hTl,hfi,hag,ht,eU,eN,es,esz⟩:=H3.out
  obtain ⟨hbase,hgx,hsd⟩:=Hb.out
  have hdl : ∀ k,ds p q r k→k < w.heap.size:=fun k hk=>HD.out.lt hk
  have kE:=Whole.new V #[.int .i64 0] 29
  have hB5:Below V.heap.size V (V.alloc (.cells #[.int .i64 0] 29)):=bel_al (Below.refl _ _) _
  have hx : ∀ k,(k=sb∨k=w.heap.size+1∨k=w.heap.size∨k=ub∨k=g) → ¬ ds p q r k:=fun k hk hq=>by
   have:=hdl k hq
   rcases hk with h | h | h | h | h
   ·omega
   ·omega
   ·omega
   ·omega
   ·rw [h] at hq;exact hgx hq
  have hc:=append1_all (U:=U) (t:=t) (by rw [← eN];exact hsb.below hB5) (by rw [← es];exact kd.below hB5) (kl.below hB5) (hub.below hB5) (hlc.below hB5) (hdc.below hB5) HG.out hx hst h1 h2 h3 ht (by omega) hag (by omega)
  obtain ⟨T1,hT1⟩ : ∃ T1,T1=wrG S fr (se - 1) st U (pc ag (fi+T.length) t) (np t.length):=⟨_,rfl⟩
  rw [← hT1] at hc
  have hca:=caught_any (f:=95) (Q:=fun w'=>DAt w' p q r n T1∧Oth (ds p q r) (V.alloc (.cells #[.int .i64 0] 29)) w') (Go.Proofs.enters_of Tryz.func95 (by kernel_rfl) rfl) (hc.mono fun e w' ⟨a,b,c⟩=>⟨a,b,c⟩) (fun w' hq=>kE.keep (hq.2.block _ kE.lt fun h=>by have:=hdl _ h;have:=hBc.size;omega))
  have HCA:=Lib.hid hca
  have HV:=Lib.hid (And.intro hsb (And.intro kl (And.intro hBc (And.intro hlc (And.intro hsc hB5)))))
  have HT1:=Lib.hid hT1
  clear hca hc hx kE hB5 hub hsb kl kd hBc hlc hdc hsc hU hT hTl hfi hag ht eU eN es esz hul hsl hne hs2 hcl hbase hgx hsd hT1
  have hmf : ∀ (fn:Fn) (first cap:Array Value) (w:World),(Instr.makeFunc fn first cap).run Tryz.prog w = .ok (.func fn first cap) w:=fun _ _ _ _=>rfl
  go_wp2_with fail
  refine HCA.out.mono ?_
  rintro e w7 ⟨rfl,w6,⟨hD6,hO6⟩,rfl⟩
  obtain ⟨hsb,kl,hBc,hlc,hsc,hB5⟩:=HV.out
  obtain ⟨hul,hsl,hne,hs2,hcl⟩:=HN.out
  obtain ⟨hU,hT,hTl,hfi,hag,ht,eU,eN,es,esz⟩:=H3.out
  obtain ⟨hbase,hgx,hsd⟩:=Hb.out
  have hdl : ∀ k,ds p q r k→k < w.heap.size:=fun k hk=>HD.out.lt hk
  have hgs:=grown_set w6 V.heap.size 0 (.int .i64 0)
  have ho7:Oth (fun k=>ds p q r k∨k=V.heap.size) V (w6.setCell ⟨V.heap.size,0,none⟩ (.int .i64 0)):=((Oth.of_below hB5 _).trans (hO6.mono fun k hk => .inl hk)).trans (Oth.of_grown hgs (.inr rfl))
  have hD7:DAt (w6.setCell ⟨V.heap.size,0,none⟩ (.int .i64 0)) p q r n T1:=hD6.grownBy hgs (fun h=>by have:=hdl _ h;have:=hBc.size;omega)
  have hnx : ∀ k,k < V.heap.size → ¬ ds p q r k → ¬ (ds p q r k∨k=V.heap.size):=fun k h1 h2 h=>by
   rcases h with h | h
   ·exact h2 h
   ·omega
  have kl7:=kl.keep (ho7.block _ kl.lt (hnx _ kl.lt (fun h=>by have:=hdl _ h;omega)))
  have sb7:=hsb.keep (ho7.block _ hsb.lt (hnx _ hsb.lt (fun h=>by have:=hdl _ h;omega)))
  have hL7:=hlc.keep (ho7.block _ hlc.lt (hnx _ hlc.lt hgx))
  have hS7:OwnV 3 _ base (.slice As T.length cs) (nts (szs T T.length)):=hsc.keep fun k hk=>ho7.block k (hsc.lt k hk).2 (hnx k (hsc.lt k hk).2 (hsd k hk))
  have hB7:Oth (fun k=>k=g∨ds p q r k∨(Value.slice As T.length cs).ownBlock=some k) w (w6.setCell ⟨V.heap.size,0,none⟩ (.int .i64 0)):=(Oth.of_below hBc _).fresh ho7 fun k hk hy=>by
   rcases hy with h | h
   ·exact .inr (.inl h)
   ·have:=hBc.size;omega
  have hz7:w.heap.size≤(w6.setCell ⟨V.heap.size,0,none⟩ (.int .i64 0)).heap.size:=Nat.le_trans hBc.size ho7.size
  clear hsb kl hBc hlc hsc hB5 ho7 hgs hO6 hD6 hnx HCA HV
  generalize w6.setCell ⟨V.heap.size,0,none⟩ (.int .i64 0)=W7 at hD7 kl7 sb7 hL7 hS7 hB7 hz7 ⊢
  obtain ⟨v9,w9,hap,hS9,hg9,how9⟩:=run_app_cell (P:=Tryz.prog) (w:=W7.drew) base 58 58 3 Tryz.underlying58 Tryz.infoIntL rfl (by omega) (by omega) _ _ (show OwnV 3 W7.drew base (.slice As T.length cs) (nts (szs T T.length)) from hS7.drew) (.int .i64 (N:Int)) rfl (by rw [szs_all];omega) (show base≤W7.heap.size by omega)
  rw [show nts (szs T T.length) ++ [.int .i64 (N:Int)]=nts (szs (T ++ [t]) (T ++ [t]).length) by rw [szs_snoc,nts_append,eN];rfl] at hS9
  have hB9:=hB7.drew.fresh (Oth.of_grownO hg9 (X:=fun k=>k=g∨ds p q r k∨(Value.slice As T.length cs).ownBlock=some k) fun k hk => .inr (.inr hk)) fun _ _ hy=>hy
  have kl9:=kl7.keep (hg9.block _ kl7.lt (fun e=>hS7.apart kl7 (by decide) e.symm))
  have hL9:=hL7.keep (hg9.block _ hL7.lt (fun e=>hS7.apart hL7 (by decide) e.symm))
  have hD9:DAt w9 p q r n T1:=hD7.keep hg9.size fun k hk=>hg9.block k (hD7.lt hk) (fun e=>hsd k e.symm hk)
  obtain ⟨A9,c9,rfl⟩:=slice_own hS9 (n:=T.length+1) (by rw [szs_all];simp)
  have hg10:=grown_set w9 g 6 (.slice A9 (T.length+1) c9)
  have hL10:=hL9.set6 (.slice A9 (T.length+1) c9)
  have hS10:=hS9.grown hg10 (hS9.apart hL9 (by decide))
  have hD10:=hD9.grownBy hg10 hgx
  have hB10:=hB9.fresh (Oth.of_grown (X:=fun k=>k=g) hg10 rfl) fun _ _ hy => .inl hy
  have HF:=Lib.hid (And.intro hL10 (And.intro hS10 (And.intro hD10 hB10)))
  have l0:W7.drew.cell? ⟨w.heap.size,0,none⟩=some (.pointer (some ⟨g,0,none⟩)):=kl7.cell 0
  have l1 : ∀ o,(W7.alloc o).cell? ⟨w.heap.size,0,none⟩=some (.pointer (some ⟨g,0,none⟩)):=fun o=>(kl7.alloc o).cell 0
  have l9:w9.cell? ⟨w.heap.size,0,none⟩=some (.pointer (some ⟨g,0,none⟩)):=kl9.cell 0
  have g0:W7.drew.cell? ⟨g,6,none⟩=some (.slice As T.length cs):=hL7.drew.c6
  have g1 : ∀ o,(W7.alloc o).cell? ⟨g,6,none⟩=some (.slice As T.length cs):=fun o=>(hL7.alloc o).c6
  have g9:w9.cell? ⟨g,6,none⟩=some (.slice As T.length cs):=hL9.c6
  have f9:=hL9.free 6
  have s0:W7.drew.cell? ⟨sb,0,none⟩=some (.int .i64 (N:Int)):=sb7.cell 0
  have hap9:(Builtin.append_ #[58,58] 58 #[.slice As T.length cs, .slice (some ⟨W7.heap.size,0,none⟩) 1 1]).run Tryz.prog (W7.alloc (.cells #[.int .i64 (N:Int)] 3)).drew = .ok (.slice A9 (T.length+1) c9) w9:=hap
  have H3':=Lib.hid eU
  have hsd9 : ∀ k,(Value.slice A9 (T.length+1) c9).ownBlock=some k→(Value.slice As T.length cs).ownBlock=some k∨w.heap.size≤k:=fun k hk=>by
   rcases how9 with h | ⟨k',h,hk'⟩
   ·exact .inl (h.symm.trans hk)
   ·rw [h] at hk
    injection hk with hk
    have:W7.drew.heap.size=W7.heap.size:=rfl
    exact .inr (by omega)
  have HSD:=Lib.hid hsd9
  clear hsd9
  have sb9:Whole w9 sb 3 [.int .i64 (N:Int)]:=sb7.keep (hg9.block _ sb7.lt (fun e=>by have:=(HS.out.lt sb e.symm).2;omega))
  have kl10:=kl9.grown hg10 (kl9.ne hL9 (by decide))
  have sb10:=sb9.grown hg10 (sb9.ne hL9 (by decide))
  clear sb9 kl10 sb10
  clear hap hS9 hg9 how9 hB9 kl9 hL9 hD9 hg10 hL10 hS10 hD10 hB10 hD7 kl7 sb7 hL7 hS7 hB7 hz7 hU hT hTl hfi hag ht eU eN es esz hul hsl hne hs2 hcl hbase hgx hsd hdl hmf
  dsimp only
  go_wp2
  clear HL HS HD HG Hb H3 Kn Ku Kp HN
  go_region_law (refine step_append_run7 hap9 rfl (.tmp 32) (.tmp 34) rfl rfl rfl rfl ?_)
  all_goals (
   go_wp2
   go_ret
   refine ⟨_,rfl,HF.out.1,HF.out.2.1,?_,HF.out.2.2.2,HSD.out⟩
   rw [← H3'.out, ← HT1.out]
   exact HF.out.2.2.1)
end Go.Proofs.YtcodpnbemdflcaaGreatDoor

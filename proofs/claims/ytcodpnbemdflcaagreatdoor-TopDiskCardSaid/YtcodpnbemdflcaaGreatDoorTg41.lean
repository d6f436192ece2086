/-
  Package redo: the records in the ring are gone through (follow), in a log that lost none of them: whatever ages, however many are safe, and round the ring's end. Written ahead for stage 9.
  Package redo: what lies in the part is taken up (load), where a log lies there that lost nothing: a contract, general in ages, start and count. Written ahead for stage 9.
-/
import Derived.Test.YtcodpnbemdflcaaGreatDoorTg35
import Derived.Test.YtcodpnbemdflcaaGreatDoorTg38
namespace Go.Proofs.YtcodpnbemdflcaaGreatDoor
open Go.RowKit
def lenV:Value→Nat
 | .slice _ n _=>n
 | _=>0
def FgPost (w:World) (L:List (List UInt8)) (g p fr se AG F st:Nat) (e:Ending) (w':World):Prop :=
 ∃ vt vs,e = .returned vt∧OwnV 9 w' w.heap.size vt (svs L)∧LAt w' g p fr se AG F st vs∧OwnV 3 w' w.heap.size vs (nts (szs L L.length))∧w.grownBy w' (some g)
def FolRel (w:World) (L:List (List UInt8)) (n g p fr se AG F st:Nat) (vt va:Value) (wr:World):Prop :=
 ∃ m vs,m≤L.length∧va = .int .i64 (((st+off L m) % n:Nat):Int)∧OwnV 9 wr w.heap.size vt (svs (L.take m))∧LAt wr g p fr se AG F st vs∧OwnV 3 wr w.heap.size vs (nts (szs L m))∧w.grownBy wr (some g)
set_option maxRecDepth 20000 in
set_option maxHeartbeats 2000000 in
theorem follow_all {w:World} {b o n c g p fr se AG fi st S:Nat} {ag:Nat→Nat} {R:Nat→Ct} {L:List (List UInt8)} (h:RowCt w b o n R) (hL:LAt w g p fr se AG fi st (.slice none 0 0)) (hr:RingG R n fi st ag L) (hS:S≤L.length) (hAG : ∀ m,S≤m→m < L.length→ag m=AG) (hn:n≤1024) (hfi:fi≤1000000) (hll:L.length≤1000) (hbg:b≠g) :
  Calls Tryz.prog 107 #[.pointer (some ⟨g,0,none⟩), .slice (some ⟨b,o,none⟩) n c, .int .i64 (S:Int)] w (FgPost w L g p fr se AG fi st):=by
 have c5:=hL.c5
 have HR:=Lib.hid h
 have HL:=Lib.hid hL
 have HG:=Lib.hid hr
 clear h hL hr
 go_enter Tryz.func107,Tryz.ntmps107
 go_wp2
 clear c5
 go_loopw [7,8] (fun vt va wr=>FolRel w L n g p fr se AG fi st vt va wr) (fun vt _ _=>2000 - lenV vt)
 case atStart=>exact ⟨0, .slice none 0 0,Nat.zero_le _,by rw [show off L 0=0 from rfl,Nat.add_zero,Nat.mod_eq_of_lt HG.out.sn],OwnV.nil,HL.out,OwnV.nil,grown_refl _ _⟩
 case round =>
  obtain ⟨m,vs,hm,rfl,hT,hLm,hS,hg⟩:=hrel
  have hoff:(st+off L m) % n < n:=Nat.mod_lt _ HG.out.n_pos
  have hge:=hg.size
  have hR:=HR.out.grown hg hbg
  obtain ⟨x0,x1,x2,x3,x4,x5⟩:=hR.get _ hoff
  obtain ⟨At,ct,rfl⟩:=slice_own hT (n:=m) (by rw [svs_length,List.length_take];omega)
  obtain ⟨As,cs,rfl⟩:=slice_own hS (n:=m) (by rw [nts_length,szs_length hm])
  obtain ⟨k,hk⟩ : ∃ k,k=(st+off L m) % n:=⟨_,rfl⟩
  rw [← hk] at hoff x0 x1 x2 x3 x4 x5 ⊢
  have HK:=Lib.hid hk
  have HR2:=Lib.hid hR
  have HT:=Lib.hid hT
  have HS:=Lib.hid hS
  have HLm:=Lib.hid hLm
  have Hg:=Lib.hid hg
  clear hk hR hT hS hLm hg
  unfold sv at x5
  go_upto_region 5 with (fail)
  have hK:=Whole.new wr #[.int .i64 ((R k).kd:Int), .int .i64 ((R k).ag:Int), .int .i64 ((R k).nu:Int), .int .i64 ((R k).pl:Int), .int .i64 ((R k).sz:Int), .string ⟨(R k).tx.toArray⟩] 152
  have hBa:Below wr.heap.size wr (wr.alloc (.cells #[.int .i64 ((R k).kd:Int), .int .i64 ((R k).ag:Int), .int .i64 ((R k).nu:Int), .int .i64 ((R k).pl:Int), .int .i64 ((R k).sz:Int), .string ⟨(R k).tx.toArray⟩] 152)):=(Below.refl _ _).alloc (Nat.le_refl _) _
  have HBa:=Lib.hid hBa
  have HKw:=Lib.hid hK
  clear hBa hK x0 x1 x2 x3 x4 x5
  generalize wr.alloc (.cells #[.int .i64 ((R k).kd:Int), .int .i64 ((R k).ag:Int), .int .i64 ((R k).nu:Int), .int .i64 ((R k).pl:Int), .int .i64 ((R k).sz:Int), .string ⟨(R k).tx.toArray⟩] 152)=W at HBa HKw ⊢
  obtain ⟨tv,bb,hrec,hcase⟩:=recordG (b:=b) (o:=o) HG.out hm hn
  rw [← HK.out] at hrec hcase
  have HC:=Lib.hid hcase
  clear hcase
  have hRW:=HR2.out.below HBa.out
  have hLW:=HLm.out.below HBa.out
  have cN : ∀ dd os,Calls Tryz.prog 74 #[.pointer (some ⟨g,0,none⟩)] (Go.Sort.grow (redrawn W dd) os) fun e w''=>e = .returned (.int .i64 ((fi+m:Nat):Int)) ∧ ∃ p:Regrown,w''=Go.Sort.grow (redrawn W p.d) p.os:=fun dd os =>
   Calls.regrown_of (lnext_any (hLW.below (below_regrown W dd os)) (by omega))
  have cR : ∀ dd os,Calls Tryz.prog 152 #[.slice (some ⟨b,o,none⟩) n c, .int .i64 (k:Int), .agg #[.int .i64 2, .int .i64 ((R k).ag:Int), .int .i64 ((fi+m:Nat):Int), .int .i64 0, .int .i64 ((R k).sz:Int)]] (Go.Sort.grow (redrawn W dd) os) fun e w''=>e = .returned (.tuple #[.string tv, .bool bb]) ∧ ∃ p:Regrown,w''=Go.Sort.grow (redrawn W p.d) p.os:=fun dd os =>
   Calls.regrown_of (hrec c _ (hRW.below (below_regrown W dd os)))
  have y1:=cell_regrown (show W.cell? ⟨wr.heap.size,1,none⟩=some (.int .i64 ((R k).ag:Int)) from HKw.out.cell 1)
  have y4:=cell_regrown (show W.cell? ⟨wr.heap.size,4,none⟩=some (.int .i64 ((R k).sz:Int)) from HKw.out.cell 4)
  clear hRW hLW hrec
  have mixed:=mixed8
  refine wp_region_quiet_below mixed (by kernel_rfl) ?_
  repeat (go_big_quiet_step (first | exact cN _ _ | exact cR _ _))
  refine wpQuiet_nil ?_
  intro _ hw'
  obtain ⟨⟨dq,osq⟩,rfl⟩:=hw'
  have hB1:=below_regrown W dq osq
  dsimp only
  generalize Go.Sort.grow (redrawn W dq) osq=W1 at hB1 ⊢
  clear cN cR y1 y4
  have hB:=HBa.out.trans (hB1.mono HBa.out.size)
  have hKc:=HKw.out.below hB1
  generalize hcb:wr.heap.size=cb at hKc ⊢
  have hT1:=HT.out.below hB
  have hS1:=HS.out.below hB
  have hL1:=HLm.out.below hB
  have hg1:w.grownBy W1 (some g):=grown_trans Hg.out (grown_below hB _)
  clear hB1 HBa HKw HR2
  rcases HC.out with ⟨rfl,t,ht,rfl,e1,e2⟩ | ⟨rfl,hml⟩
  ·have hml:m < L.length:=(List.getElem?_eq_some_iff.1 ht).1
   have hos:=off_succ ht
   have hgl:=HL.out.lt
   obtain ⟨N,hN⟩ : ∃ N,N=np t.length:=⟨_,rfl⟩
   have hNpos:1≤N:=by rw [hN];exact np_pos _
   have hNle:N≤29:=by
    have:=HG.out.len _ (List.mem_of_getElem? ht)
    rw [hN]
    unfold np
    omega
   have htl:t.length≤1024:=HG.out.len _ (List.mem_of_getElem? ht)
   have hkp : ∀ W,Calls Tryz.prog 93 #[.int .i64 ((t.length:Nat):Int)] W fun e w'=>e = .returned (.int .i64 (N:Int))∧w'=W:=fun W=>by rw [hN];exact pieces_any t.length (by omega) W
   rw [← hN] at hos
   have hst:=svs_append (L.take m) [t]
   have hLt:L.take (m+1)=L.take m ++ [t]:=by rw [List.take_add_one,ht];rfl
   have hsz:=szs_succ ht
   rw [← hN] at hsz
   -- the text is appended
   obtain ⟨v2,w2,hap,hT2,hgr2,how2⟩:=run_app_cell (P:=Tryz.prog) (w:=W1.drew) w.heap.size 98 98 9 Tryz.underlying98 Tryz.infoStr rfl (by omega) (by omega) _ _ (show OwnV 9 W1.drew w.heap.size (.slice At m ct) (svs (L.take m)) from hT1.drew) (sv t) rfl (by rw [svs_length,List.length_take];omega) (Nat.le_trans hge (show wr.heap.size≤W1.drew.heap.size from hB.size))
   rw [show svs (L.take m) ++ [sv t]=svs (L.take (m+1)) by rw [hLt,hst];rfl] at hT2
   have hS2:OwnV 3 w2 w.heap.size (.slice As m cs) (nts (szs L m)):=hS1.keep fun q hq=>hgr2.block q (hS1.lt q hq).2 (fun e=>own_apart hT1 hS1 (by decide) e.symm hq)
   have hown2 : ∀ q,(Value.slice At m ct).ownBlock=some q→w.heap.size≤q:=fun q hq=>(hT1.lt q hq).1
   have hL2:LAt w2 g p fr se AG fi st (.slice As m cs):=hL1.keep (hgr2.block g hL1.lt (fun e=>by have:=hown2 g e.symm;omega))
   have hKc2:Whole w2 cb 152 _:=hKc.keep (hgr2.block cb hKc.lt (fun e=>hT1.apart hKc (by decide) e.symm))
   have hg2:w.grownBy w2 (some g):=grown_own (show w.grownBy W1.drew (some g) from grown_trans hg1 (grown_below (Below.refl _ _).drew _)) hgr2 (fun q hq => .inl (hown2 q hq))
   obtain ⟨A2,c2,rfl⟩:=slice_own hT2 (n:=m+1) (by rw [svs_length,List.length_take];omega)
   -- its size is appended
   obtain ⟨v5,w5,hap5,hS5,hgr5,how5⟩:=run_app_cell (P:=Tryz.prog) (w:=w2.drew) w.heap.size 58 58 3 Tryz.underlying58 Tryz.infoIntL rfl (by omega) (by omega) _ _ (show OwnV 3 w2.drew w.heap.size (.slice As m cs) (nts (szs L m)) from hS2.drew) (.int .i64 (N:Int)) rfl (by rw [nts_length,szs_length hm];omega) (show w.heap.size≤w2.heap.size from hg2.size)
   rw [show nts (szs L m) ++ [.int .i64 (N:Int)]=nts (szs L (m+1)) by rw [hsz,nts_append];rfl] at hS5
   have hown5 : ∀ q,(Value.slice As m cs).ownBlock=some q→w.heap.size≤q:=fun q hq=>(hS2.lt q hq).1
   have hT5:OwnV 9 w5 w.heap.size (.slice A2 (m+1) c2) (svs (L.take (m+1))):=hT2.keep fun q hq=>hgr5.block q (hT2.lt q hq).2 (fun e=>own_apart hS2 hT2 (by decide) e.symm hq)
   have hL5:LAt w5 g p fr se AG fi st (.slice As m cs):=hL2.keep (hgr5.block g hL2.lt (fun e=>by have:=hown5 g e.symm;omega))
   have hKc5:Whole w5 cb 152 _:=hKc2.keep (hgr5.block cb hKc2.lt (fun e=>hS2.apart hKc2 (by decide) e.symm))
   have hg5:w.grownBy w5 (some g):=grown_own (show w.grownBy w2.drew (some g) from grown_trans hg2 (grown_below (Below.refl _ _).drew _)) hgr5 (fun q hq => .inl (hown5 q hq))
   obtain ⟨A5,c5,rfl⟩:=slice_own hS5 (n:=m+1) (by rw [nts_length,szs_length (by omega)])
   have hgc:g≠cb:=by have:=hg1.size;have h3:=Hg.out.size;omega
   have hL6:=hL5.set6 (.slice A5 (m+1) c5)
   have hgs:=grown_set w5 g 6 (.slice A5 (m+1) c5)
   have hT6:=hT5.grown hgs (fun e=>by have:=(hT5.lt g e).1;omega)
   have hS6:=hS5.grown hgs (fun e=>by have:=(hS5.lt g e).1;omega)
   have hKc6:=hKc5.grown hgs hgc.symm
   have hg6:=grown_trans hg5 hgs
   have HF:=Lib.hid (And.intro hT6 (And.intro hL6 (And.intro hS6 hg6)))
   have x6:=hL5.c6
   have f6:=hL5.free 6
   have z6:(w5.setCell ⟨g,6,none⟩ (.slice A5 (m+1) c5)).cell? ⟨cb,4,none⟩=some (.int .i64 ((R k).sz:Int)):=hKc6.cell 4
   have d6:w2.drew.cell? ⟨g,6,none⟩=some (.slice As m cs):=hL2.drew.c6
   have d6' : ∀ o,(w2.alloc o).cell? ⟨g,6,none⟩=some (.slice As m cs):=fun o=>(hL2.alloc o).c6
   have d4:w2.drew.cell? ⟨cb,4,none⟩=some (.int .i64 ((R k).sz:Int)):=hKc2.cell 4
   have y1:W1.drew.cell? ⟨cb,1,none⟩=some (.int .i64 ((R k).ag:Int)):=hKc.cell 1
   have y3:W1.drew.cell? ⟨g,3,none⟩=some (.int .i64 (AG:Int)):=hL1.drew.c3
   have em:((k:Int)+(N:Int)) % (n:Int)=(((st+off L (m+1)) % n:Nat):Int):=by
    rw [hos, ← Nat.add_assoc, ← Nat.mod_add_mod, ← HK.out]
    simp
   have et:Int.tmod ((k:Int)+(N:Int)) (n:Int)=(((st+off L (m+1)) % n:Nat):Int):=by rw [Int.tmod_eq_emod_of_nonneg (by omega),em]
   rw [e2] at d4 z6
   rw [e1] at y1
   have hAm:S≤m→ag m=AG:=fun q=>hAG m q hml
   have Hml:=Lib.hid hml
   rw [e1,e2]
   clear hT1 hS1 hL1 hg1 hKc hB hT2 hgr2 how2 hS2 hL2 hKc2 hg2 hS5 hgr5 how5 hT5 hL5 hKc5 hg5 hL6 hgs hT6 hS6 hKc6 hg6 hos hst hLt hsz ht hN e1 e2 HT HS HLm Hg HC hml hown2 hown5
   obtain ⟨k2,hk2⟩ : ∃ k2,k2=(st+off L (m+1)) % n:=⟨_,rfl⟩
   rw [← hk2] at em et
   have HK2:=Lib.hid hk2
   clear hk2
   have hcase2:(decide (m < S)=true∧decide ((m:Int) < (S:Int))=true)∨(decide (m < S)=false∧decide ((m:Int) < (S:Int))=false∧ag m=AG):=by
    by_cases q:m < S
    ·exact .inl ⟨by simp;omega,by simp;omega⟩
    ·exact .inr ⟨by simp;omega,by simp;omega,hAm (by omega)⟩
   clear hAm
   rcases hcase2 with ⟨dn,dm⟩ | ⟨dn,dm,ea⟩
   ·first | rw [dn] | rw [dm]
    clear dn dm
    go_wp2
    go_region
    all_goals (
     go_upto_region 10 with (at_builtin;refine wpList_append_run hap rfl _ _ rfl rfl rfl rfl ?_)
     have HAP:=Lib.hid (show (Builtin.append_ #[58,58] 58 #[.slice As m cs, .slice (some ⟨w2.heap.size,0,none⟩) 1 1]).run Tryz.prog (w2.alloc (.cells #[.int .i64 (N:Int)] 3)).drew = .ok (.slice A5 (m+1) c5) w5 from hap5)
     clear hap y1 y3 hap5
     go_region_law (first | (refine step_append_run7 hap6 rfl (.tmp 68) (.tmp 73) rfl rfl rfl rfl ?_) | (rw [if_pos (by simp [Region.wanted])];unfold Oper.wp;go_simp;refine (hkp _).mono ?_;rintro e w8 ⟨rfl,hw8⟩;subst hw8;have hap6:=HAP.out;dsimp only))
     all_goals (
      clear HAP d6 d6' d4 x6 f6
      go_wp2_with (go_at_call 93;refine (hkp _).mono ?_;rintro e w9 ⟨rfl,hw9⟩;subst hw9)
      go_roundw
      case rel=>exact ⟨m+1,_,Hml.out,by rw [HK2.out],HF.out.1,HF.out.2.1,HF.out.2.2.1,HF.out.2.2.2⟩
      case measure=>have:=Hml.out;simp [lenV];omega))
   ·rw [ea] at y1 ⊢
    have bq:((AG:Int) != (AG:Int))=false:=by simp
    first | rw [dn] | rw [dm]
    clear dn dm
    go_wp2
    go_region
    all_goals (
     go_upto_region 10 with (at_builtin;refine wpList_append_run hap rfl _ _ rfl rfl rfl rfl ?_)
     have HAP:=Lib.hid (show (Builtin.append_ #[58,58] 58 #[.slice As m cs, .slice (some ⟨w2.heap.size,0,none⟩) 1 1]).run Tryz.prog (w2.alloc (.cells #[.int .i64 (N:Int)] 3)).drew = .ok (.slice A5 (m+1) c5) w5 from hap5)
     clear hap y1 y3 hap5
     go_region_law (first | (refine step_append_run7 hap6 rfl (.tmp 68) (.tmp 73) rfl rfl rfl rfl ?_) | (rw [if_pos (by simp [Region.wanted])];unfold Oper.wp;go_simp;refine (hkp _).mono ?_;rintro e w8 ⟨rfl,hw8⟩;subst hw8;have hap6:=HAP.out;dsimp only))
     all_goals (
      clear HAP d6 d6' d4 x6 f6
      go_wp2_with (go_at_call 93;refine (hkp _).mono ?_;rintro e w9 ⟨rfl,hw9⟩;subst hw9)
      go_roundw
      case rel=>exact ⟨m+1,_,Hml.out,by rw [HK2.out],HF.out.1,HF.out.2.1,HF.out.2.2.1,HF.out.2.2.2⟩
      case measure=>have:=Hml.out;simp [lenV];omega))
  ·have HF:=Lib.hid (And.intro (show OwnV 9 W1.drew w.heap.size (.slice At m ct) (svs (L.take m)) from hT1.drew) (And.intro (show LAt W1.drew g p fr se AG fi st (.slice As m cs) from hL1.drew) (And.intro (show OwnV 3 W1.drew w.heap.size (.slice As m cs) (nts (szs L m)) from hS1.drew) (show w.grownBy W1.drew (some g) from grown_trans hg1 (grown_below (Below.refl _ _).drew _)))))
   have dm:decide ((m:Int) < (S:Int))=false:=by simp;omega
   have dn:decide (m < S)=false:=by simp;omega
   first | rw [dn] | rw [dm]
   clear dn dm
   subst hml
   rw [List.take_length] at HF
   clear hT1 hS1 hL1 hg1 hKc hB HT HS HLm Hg HC
   go_wp2
   go_region
   all_goals (
    go_wp2_with (go_at_call 104;refine (insist_yes _).mono ?_;rintro e w7 ⟨rfl,hw7⟩;subst hw7)
    go_ret
    exact ⟨_,_,rfl,HF.out.1,HF.out.2.1,HF.out.2.2.1,HF.out.2.2.2⟩)
end Go.Proofs.YtcodpnbemdflcaaGreatDoor
namespace Go.Proofs.YtcodpnbemdflcaaGreatDoor
open Go.RowKit
theorem FgPost.mono {w W:World} {L:List (List UInt8)} {g p fr se AG F st:Nat} {e:Ending} {w':World} (h:FgPost W L g p fr se AG F st e w') (hg:w.grownBy W (some g)):FgPost w L g p fr se AG F st e w':=by
 obtain ⟨vt,vs,h2,h3,h4,h5,h6⟩:=h
 exact ⟨vt,vs,h2,h3.mono hg.size,h4,h5.mono hg.size,grown_trans hg h6⟩
set_option maxRecDepth 20000 in
set_option maxHeartbeats 2000000 in
theorem load_all {w:World} {g p fr se ag0 fi st0 q r n n1 age first st cnt:Nat} {ag:Nat→Nat} {S:Dk} {C:Nat→Ct} {L:List (List UInt8)} (h:LAt w g p fr se ag0 fi st0 (.slice none 0 0)) (hd:DAt w p q r n S) (h1:fr+se≤n) (hn1:se=n1+1) (h2':n1≤1024)
  (hC : ∀ j,j < se→Sec (S.now (fr+j)) (C j)) (hC0:C 0=rootC fr se age first st cnt) (hr:RingG (fun j=>C (j+1)) n1 first st ag L) (hcnt:cnt≤L.length) (hAG : ∀ m,cnt≤m→m < L.length→ag m=age) (hpc : ∀ j,j < n1→C (j+1)=Ct.zero∨IsPc (C (j+1)) age) (ha:1≤age) (ha2:age≤1000000) (hf:1≤first) (hf2:first≤1000000) (hl:L.length≤1000) :
  Calls Tryz.prog 67 #[.pointer (some ⟨g,0,none⟩)] w (FgPost w L g p fr se age first st):=by
 have hst:=hr.sn
 have h2:1≤n1:=by omega
 subst hn1
 have hk:=contents_any (C:=C) h hd h1 (by omega) hC
 have hn:=hd.most
 have HL:=Lib.hid h
 have HRG:=Lib.hid hr
 have HPC:=Lib.hid hpc
 clear h hd hC hr hpc
 go_enter Tryz.func67,Tryz.ntmps67
 go_wp2_with (go_at_call 103;refine hk.mono ?_;rintro e w1 ⟨b,rfl,hB,hbb,hb⟩)
 clear hk
 have hR1:=hB.row.tail
 obtain ⟨x0',x1',x2',x3',x4',x5'⟩:=hB.row.get 0 (by omega)
 rw [hC0] at x0' x1' x2' x3' x4' x5'
 simp only [Nat.zero_mul,Nat.zero_add] at x0' x1' x2' x3' x4' x5' hR1
 have x0:w1.drew.cell? ⟨b,0,none⟩=some (.int .i64 1):=x0'
 have x1:w1.drew.cell? ⟨b,1,none⟩=some (.int .i64 (age:Int)):=x1'
 have x2:w1.drew.cell? ⟨b,2,none⟩=some (.int .i64 (first:Int)):=x2'
 have x3:w1.drew.cell? ⟨b,3,none⟩=some (.int .i64 (st:Int)):=x3'
 have x4:w1.drew.cell? ⟨b,4,none⟩=some (.int .i64 (cnt:Int)):=x4'
 have x5:w1.drew.cell? ⟨b,5,none⟩=some (.string ⟨(nameOf fr (n1+1)).toArray⟩):=x5'
 have hbl:=hB.lt
 have y0 : ∀ o,(w1.alloc o).cell? ⟨b,0,none⟩=_:=fun o=>(World.cell?_alloc_lt w1 o ⟨b,0,none⟩ hbl).trans x0
 have y1 : ∀ o,(w1.alloc o).cell? ⟨b,1,none⟩=_:=fun o=>(World.cell?_alloc_lt w1 o ⟨b,1,none⟩ hbl).trans x1
 have y2 : ∀ o,(w1.alloc o).cell? ⟨b,2,none⟩=_:=fun o=>(World.cell?_alloc_lt w1 o ⟨b,2,none⟩ hbl).trans x2
 have y3 : ∀ o,(w1.alloc o).cell? ⟨b,3,none⟩=_:=fun o=>(World.cell?_alloc_lt w1 o ⟨b,3,none⟩ hbl).trans x3
 have y4 : ∀ o,(w1.alloc o).cell? ⟨b,4,none⟩=_:=fun o=>(World.cell?_alloc_lt w1 o ⟨b,4,none⟩ hbl).trans x4
 have y5 : ∀ o,(w1.alloc o).cell? ⟨b,5,none⟩=_:=fun o=>(World.cell?_alloc_lt w1 o ⟨b,5,none⟩ hbl).trans x5
 have hsl:=fun W=>cut_cts b n1 W
 simp only [if_neg (show ¬ n1=0 by omega)] at hsl
 obtain ⟨nm,hnm⟩ : ∃ nm,nm=ByteArray.mk (nameOf fr (n1+1)).toArray:=⟨_,rfl⟩
 rw [← hnm] at x5
 have HNM:=Lib.hid hnm
 have HR1:=Lib.hid hR1
 have HB:=Lib.hid hb
 have hln:(0:Int) < ((n1+1:Nat):Int):=by omega
 clear hB hb hR1 hbl x0' x1' x2' x3' x4' x5' hnm
 simp only [← HNM.out] at y5
 go_region
 have hK:=(Whole.new w1 #[.int .i64 1, .int .i64 (age:Int), .int .i64 (first:Int), .int .i64 (st:Int), .int .i64 (cnt:Int), .string nm] 152).drew
 have hBa:Below w1.heap.size w1 (w1.alloc (.cells #[.int .i64 1, .int .i64 (age:Int), .int .i64 (first:Int), .int .i64 (st:Int), .int .i64 (cnt:Int), .string nm] 152)).drew:=((Below.refl _ _).alloc (Nat.le_refl _) _).drew
 have hRW:=HR1.out.below hBa
 have hBW:=HB.out.trans (hBa.mono HB.out.size)
 generalize (w1.alloc (.cells #[.int .i64 1, .int .i64 (age:Int), .int .i64 (first:Int), .int .i64 (st:Int), .int .i64 (cnt:Int), .string nm] 152)).drew=W at hK hRW hBW ⊢
 have HRW:=Lib.hid hRW
 have HBW:=Lib.hid hBW
 have HK:=Lib.hid hK
 have k0:W.cell? ⟨w1.heap.size,0,none⟩=some (.int .i64 1):=hK.cell 0
 clear hK hBa hRW hBW x0 x1 x2 x3 x4 x5 y0 y1 y2 y3 y4 y5 HR1 HB hsl
 generalize w1.heap.size=tb at HK k0 ⊢
 go_wp2
 have hn0:fr≤4096:=by omega
 have hn2:n1+1≤4096:=by omega
 have cN : ∀ dd os,Calls Tryz.prog 105 #[.pointer (some ⟨g,0,none⟩)] (Go.Sort.grow (redrawn W dd) os) fun e w''=>e = .returned (.string nm) ∧ ∃ p:Regrown,w''=Go.Sort.grow (redrawn W p.d) p.os:=fun dd os =>
  Calls.regrown_of (by
   have:=name_any ((HL.out.below HBW.out).below (below_regrown W dd os)) hn0 hn2
   unfold TellsS at this
   rw [← HNM.out] at this
   exact this)
 have cI : ∀ dd os,Calls Tryz.prog 104 #[.bool true] (Go.Sort.grow (redrawn W dd) os) fun e w''=>e = .returned (.tuple #[]) ∧ ∃ p:Regrown,w''=Go.Sort.grow (redrawn W p.d) p.os:=fun dd os =>
  Calls.regrown_of ((insist_yes _).mono fun e w' ⟨h1,h2⟩=>⟨h1,by rw [h2];exact Below.refl _ _⟩)
 clear k0
 have z0:=cell_regrown (show W.cell? ⟨tb,0,none⟩=some (.int .i64 1) from HK.out.cell 0)
 have z1:=cell_regrown (show W.cell? ⟨tb,1,none⟩=some (.int .i64 (age:Int)) from HK.out.cell 1)
 have z2:=cell_regrown (show W.cell? ⟨tb,2,none⟩=some (.int .i64 (first:Int)) from HK.out.cell 2)
 have z3:=cell_regrown (show W.cell? ⟨tb,3,none⟩=some (.int .i64 (st:Int)) from HK.out.cell 3)
 have z5:=cell_regrown (show W.cell? ⟨tb,5,none⟩=some (.string nm) from HK.out.cell 5)
 have d1:decide ((1:Int)≤(age:Int))=true:=by simp;omega
 have d2:decide ((1:Int)≤(first:Int))=true:=by simp;omega
 have d3:decide ((st:Int) < (n1:Int))=true:=by simp;omega
 have e1:decide (1≤age)=true:=decide_eq_true ha
 have e2:decide (1≤first)=true:=decide_eq_true hf
 have e3:decide (st < n1)=true:=decide_eq_true (by omega)
 have mixed:=mixed8
 refine wp_region_quiet_below mixed (by kernel_rfl) ?_
 repeat (go_big_quiet_step (first | exact cN _ _ | exact cI _ _))
 refine wpQuiet_nil ?_
 intro _ hw'
 obtain ⟨⟨dq,osq⟩,rfl⟩:=hw'
 have hB2:=below_regrown W dq osq
 dsimp only
 generalize Go.Sort.grow (redrawn W dq) osq=W2 at hB2 ⊢
 have HRW2:=Lib.hid (HRW.out.below hB2)
 have HK2:=Lib.hid (HK.out.below hB2)
 have HBW2:=Lib.hid (HBW.out.trans (hB2.mono HBW.out.size))
 clear cN cI z0 z1 z2 z3 z5 d1 d2 d3 e1 e2 e3 mixed hB2 HRW HK HBW
 go_wp2
 go_loopw [70] (fun i wr => ∃ k:Nat,k≤n1∧i = .int .i64 (k:Int)∧Below W2.heap.size W2 wr) (fun i _=>n1 - (Go.RowKit.intOf i).toNat)
 case atStart=>exact ⟨0,Nat.zero_le _,rfl,Below.refl _ _⟩
 case round =>
  obtain ⟨k,hk,rfl,hb⟩:=hrel
  by_cases hlt:k < n1
  ·obtain ⟨x0,x1,x2,x3,x4,x5⟩:=(HRW2.out.below hb).get k hlt
   have hKt:=HK2.out.below hb
   obtain ⟨c,hc⟩ : ∃ c,c=C (k+1):=⟨_,rfl⟩
   have hp:=HPC.out k hlt
   rw [← hc] at x0 x1 x2 x3 x4 x5 hp
   simp only [sv] at x0 x1 x2 x3 x4 x5
   have hbf:=hb.alloc hb.size (.cells #[.int .i64 (c.kd:Int), .int .i64 (c.ag:Int), .int .i64 (c.nu:Int), .int .i64 (c.pl:Int), .int .i64 (c.sz:Int), .string ⟨c.tx.toArray⟩] 152)
   have hKn:=(Whole.new wr #[.int .i64 (c.kd:Int), .int .i64 (c.ag:Int), .int .i64 (c.nu:Int), .int .i64 (c.pl:Int), .int .i64 (c.sz:Int), .string ⟨c.tx.toArray⟩] 152)
   have HBF:=Lib.hid hbf
   have hta:=(hKt.alloc (.cells #[.int .i64 (c.kd:Int), .int .i64 (c.ag:Int), .int .i64 (c.nu:Int), .int .i64 (c.pl:Int), .int .i64 (c.sz:Int), .string ⟨c.tx.toArray⟩] 152)).cell 1
   have z0:=hKn.cell 0
   have z1:=hKn.cell 1
   have z2:=hKn.cell 2
   have z3:=hKn.cell 3
   have z4:=hKn.cell 4
   have z5:=hKn.cell 5
   simp only [List.getElem?_cons_succ,List.getElem?_cons_zero] at z0 z1 z2 z3 z4 z5 hta
   clear hb hbf hKn hKt hc
   rcases hp with e | hp
   ·have hk0:((c.kd:Int) == 0)=true:=by rw [e];rfl
    clear e
    go_wp2_with (go_at_call 104;refine (insist_yes _).mono ?_;rintro e w7 ⟨rfl,hw7⟩;subst hw7)
    exact ⟨⟨k+1,hlt,by go_num,HBF.out⟩,by simp [Go.RowKit.intOf];omega⟩
   ·have hk0:((c.kd:Int) == 0)=false:=by rw [hp.kd];rfl
    have hip : ∀ W,Calls Tryz.prog 106 #[.agg #[.int .i64 (c.kd:Int), .int .i64 (c.ag:Int), .int .i64 (c.nu:Int), .int .i64 (c.pl:Int), .int .i64 (c.sz:Int), .string ⟨c.tx.toArray⟩], .int .i64 (age:Int)] W fun e w'=>e = .returned (.bool true)∧Below W.heap.size W w':=fun W=>isPiece_yes hp W
    have HIP:=Lib.hid hip
    clear hp hip
    go_wp2_with (first | (go_at_call 106;refine (HIP.out _).mono ?_;rintro e w6 ⟨rfl,hb6⟩;have HBF2:=Lib.hid (HBF.out.trans (hb6.mono HBF.out.size));clear hb6) | (go_at_call 104;refine (insist_yes _).mono ?_;rintro e w7 ⟨rfl,hw7⟩;subst hw7))
    exact ⟨⟨k+1,hlt,by go_num,HBF2.out⟩,by simp [Go.RowKit.intOf];omega⟩
  ·obtain rfl:k=n1:=by omega
   clear hlt
   have hbw:=HBW2.out.trans (hb.mono HBW2.out.size)
   have hL:=(HL.out.below hbw).drew
   have hKt:=(HK2.out.below hb).drew
   have HRd:=Lib.hid (HRW2.out.below hb).drew
   have hgt:g≠tb:=hL.ne hKt (by decide)
   have t1:wr.drew.cell? ⟨tb,1,none⟩=some (.int .i64 (age:Int)):=hKt.cell 1
   have t2:wr.drew.cell? ⟨tb,2,none⟩=some (.int .i64 (first:Int)):=hKt.cell 2
   have t3:wr.drew.cell? ⟨tb,3,none⟩=some (.int .i64 (st:Int)):=hKt.cell 3
   have hLw:=HL.out.below hbw
   have c3':=hLw.c3
   have c4':=hLw.c4
   have c5':=hLw.c5
   have f3':=hLw.free 3
   have f4':=hLw.free 4
   have f5':=hLw.free 5
   have hKw:=HK2.out.below hb
   have t1':wr.cell? ⟨tb,1,none⟩=some (.int .i64 (age:Int)):=hKw.cell 1
   have t2':wr.cell? ⟨tb,2,none⟩=some (.int .i64 (first:Int)):=hKw.cell 2
   have t3':wr.cell? ⟨tb,3,none⟩=some (.int .i64 (st:Int)):=hKw.cell 3
   have hgs:=grown_trans (grown_trans (grown_set wr g 3 (.int .i64 (age:Int))) (grown_set _ g 4 (.int .i64 (first:Int)))) (grown_set _ g 5 (.int .i64 (st:Int)))
   have hL5:LAt (((wr.setCell ⟨g,3,none⟩ (.int .i64 (age:Int))).setCell ⟨g,4,none⟩ (.int .i64 (first:Int))).setCell ⟨g,5,none⟩ (.int .i64 (st:Int))) g p fr (k+1) age first st (.slice none 0 0):=((hLw.set3 age).set4 first).set5 st
   have hK5:=hKw.grown hgs hgt.symm
   have hR5:=(HRW2.out.below hb).grown hgs (by have:=HL.out.lt;omega)
   have hg5:=grown_trans (grown_below hbw (some g)) hgs
   have H5:=Lib.hid (And.intro hL5 (And.intro hK5 (And.intro hR5 hg5)))
   clear hLw hKw hgs hL5 hK5 hR5 hg5
   have c3:=hL.c3
   have c4:=hL.c4
   have c5:=hL.c5
   have f3:=hL.free 3
   have f4:=hL.free 4
   have f5:=hL.free 5
   have Hbw:=Lib.hid (show Below w.heap.size w wr.drew from hbw.drew)
   have HLd:=Lib.hid hL
   have HKd:=Lib.hid hKt
   clear hbw hL hKt hb HBW2 HRW2 HK2
   go_wp2
   go_region
   clear c3 c4 c5 c3' c4' c5' f3 f4 f5 f3' f4' f5' t1 t2 t3 t1' t2' t3' HRd Hbw HLd HKd
   generalize ((wr.setCell ⟨g,3,none⟩ (.int .i64 (age:Int))).setCell ⟨g,4,none⟩ (.int .i64 (first:Int))).setCell ⟨g,5,none⟩ (.int .i64 (st:Int))=W5 at H5 ⊢
   obtain ⟨hL5,hK5,hR5,hg5⟩:=H5.out
   have t4:W5.drew.cell? ⟨tb,4,none⟩=some (.int .i64 (cnt:Int)):=hK5.cell 4
   have hF:=follow_all (c:=k) hR5.drew hL5.drew HRG.out hcnt hAG h2' hf2 hl (by have:=HL.out.lt;omega)
   have hg6:w.grownBy W5.drew (some g):=grown_trans hg5 (grown_below (Below.refl _ _).drew _)
   have HF:=Lib.hid hF
   have HG6:=Lib.hid hg6
   clear hL5 hK5 hR5 hg5 hF hg6 H5
   go_wp2_with fail
   refine HF.out.mono ?_
   intro e w9 hpost
   have hpo:=hpost.mono HG6.out
   obtain ⟨vt,vs,h2'',h3,h4,h5,h6⟩:=hpo
   subst h2''
   obtain ⟨At,ct,rfl⟩:=slice_own h3 rfl
   have HFF:=Lib.hid (And.intro h3 (And.intro h4 (And.intro h5 h6)))
   clear h3 h4 h5 h6 hpost
   dsimp only
   go_wp2
   go_ret
   exact ⟨_,vs,rfl,HFF.out.1,HFF.out.2.1,HFF.out.2.2.1,HFF.out.2.2.2⟩
end Go.Proofs.YtcodpnbemdflcaaGreatDoor

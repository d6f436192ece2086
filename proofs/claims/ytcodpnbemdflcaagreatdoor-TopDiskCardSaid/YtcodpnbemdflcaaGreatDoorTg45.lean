/-
  Package pheap: what stays of a heap when other blocks are turned; a log that lost nothing, in memory: contract of Append.
  Package redo: without, Trim of a log that lost nothing: contracts.
  Package redo: Trim of a log that lost nothing: contract.
-/
import Derived.Test.YtcodpnbemdflcaaGreatDoorTg42
import Derived.Test.YtcodpnbemdflcaaGreatDoorTg40
import Derived.Test.YtcodpnbemdflcaaGreatDoorTg39
import Derived.Test.YtcodpnbemdflcaaGreatDoorTg25
import Derived.Test.YtcodpnbemdflcaaGreatDoorTg44
import Derived.Deep.DeepCutAuto
import Derived.Deep.RegionHeld3
import Derived.Test.YtcodpnbemdflcaaGreatDoorTg18
import Derived.Test.YtcodpnbemdflcaaGreatDoorTg38
namespace Go.Proofs.YtcodpnbemdflcaaGreatDoor
open Go.RowKit
def HBlk (s:HSl) (os:List (Ob × OSl)) (k:Nat):Prop:=(Value.slice s.A s.n s.c).ownBlock=some k∨k ∈ blocksOf os∨(Value.slice s.F s.m s.d).ownBlock=some k
section
variable {w w':World} {base:Nat} {s:HSl} {os:List (Ob × OSl)} {H:Hp} {X:Nat→Prop}
theorem OwnHp.lt (h:OwnHp w base s os H) {k:Nat} (hk:HBlk s os k):base≤k∧k < w.heap.size:=by
 rcases hk with h1 | h1 | h1
 ·exact h.objs.row_lt k h1
 ·exact h.objs.lt k h1
 ·exact h.free.lt k h1
theorem OwnHp.oth (h:OwnHp w base s os H) (ho:Oth X w w') (hx : ∀ k,HBlk s os k → ¬ X k):OwnHp w' base s os H :=
 ⟨h.objs.keep (fun k hk=>ho.block k (h.objs.row_lt k hk).2 (hx k (.inl hk))) (fun k hk=>ho.block k (h.objs.lt k hk).2 (hx k (.inr (.inl hk)))),h.obs,h.free.keep (fun k hk=>ho.block k (h.free.lt k hk).2 (hx k (.inr (.inr hk)))),h.tp,h.nx⟩
theorem OwnHp.rise (h:OwnHp w base s os H) (ho:Oth X w w') (hx : ∀ k,X k→k < base):OwnHp w' base s os H :=
 h.oth ho fun k hk hxk=>by
  have:=(h.lt hk).1
  have:=hx k hxk
  omega
end
structure LogAt (w:World) (base g p q r n:Nat) (vs:Value) (A F st:Nat) (L:List (List UInt8)) (S:Dk):Prop where
 lg : ∃ cnt ag C,DLog 0 255 A F st cnt ag L C S
 la:LAt w g p 0 256 A F st vs
 sz:OwnV 3 w base vs (nts (szs L L.length))
 dk:DAt w p q r n S
 gx : ¬ ds p q r g
 vx : ∀ k,vs.ownBlock=some k → ¬ ds p q r k
def LX (g p q r:Nat) (vs:Value) (k:Nat):Prop:=k=g∨ds p q r k∨vs.ownBlock=some k
section
variable {w w':World} {base g p q r n A F st:Nat} {vs:Value} {L:List (List UInt8)} {S:Dk} {X:Nat→Prop}
theorem LogAt.lt (h:LogAt w base g p q r n vs A F st L S) {k:Nat} (hk:LX g p q r vs k):k < w.heap.size:=by
 rcases hk with h1 | h1 | h1
 ·rw [h1];exact h.la.lt
 ·exact h.dk.lt h1
 ·exact (h.sz.lt k h1).2
theorem LogAt.oth (h:LogAt w base g p q r n vs A F st L S) (ho:Oth X w w') (hx : ∀ k,LX g p q r vs k → ¬ X k):LogAt w' base g p q r n vs A F st L S :=
 ⟨h.lg,h.la.keep (ho.block _ h.la.lt (hx _ (.inl rfl))),h.sz.keep (fun k hk=>ho.block k (h.sz.lt k hk).2 (hx k (.inr (.inr hk)))),h.dk.keep ho.size fun k hk=>ho.block k (h.dk.lt hk) (hx k (.inr (.inl hk))),h.gx,h.vx⟩
theorem LogAt.below (h:LogAt w base g p q r n vs A F st L S) (hb:Below w.heap.size w w'):LogAt w' base g p q r n vs A F st L S:=h.oth (Oth.of_below hb fun _=>False) fun _ _ h=>h
def ApLa (w:World) (base g p q r n:Nat) (vs:Value) (A F st:Nat) (L:List (List UInt8)) (t:List UInt8) (e:Ending) (w':World):Prop :=
 ∃ vs' S',e = .returned (.int .i64 0)∧LogAt w' base g p q r n vs' A F st (L ++ [t]) S'∧Oth (LX g p q r vs) w w' ∧ ∀ k,vs'.ownBlock=some k→vs.ownBlock=some k∨w.heap.size≤k
theorem append_la (h:LogAt w base g p q r n vs A F st L S) {t:List UInt8} (hn:256≤n) (hb:base≤w.heap.size) (h1:1≤t.length) (h2:t.length≤1024) (hU:off L L.length+np t.length≤255) (hA:A≤1000000) (hF1:1≤F) (hF:F+L.length≤1000000) (hl:L.length≤1000) :
  Calls Tryz.prog 55 #[.pointer (some ⟨g,0,none⟩), .string ⟨t.toArray⟩] w (ApLa w base g p q r n vs A F st L t):=by
 obtain ⟨cnt,ag,C,hd⟩:=h.lg
 refine (append_all h.la h.sz h.dk hd.goes hb h.gx h.vx (by have:=hd.ring.sn;omega) (by decide) (by decide) (by omega) h2 hU hA hF hl hd.ring.len).mono ?_
 rintro e w' ⟨vs',rfl,l1,s1,d1,o1,f1⟩
 exact ⟨vs',_,rfl,⟨⟨_,_,_,hd.append h1 h2 hU hA hF1 hF⟩,l1,s1,d1,h.gx,fun k hk hx=>by
  rcases f1 k hk with e | e
  ·exact h.vx k e hx
  ·have:=h.dk.lt hx
   omega⟩,o1,f1⟩
end
end Go.Proofs.YtcodpnbemdflcaaGreatDoor
namespace Go.Proofs.YtcodpnbemdflcaaGreatDoor
open Go.RowKit
def TrPost (w:World) (p fr se ag fi st:Nat) (S:List Nat) (e:Ending) (w':World):Prop :=
 ∃ v,e = .returned (.agg #[.pointer (some ⟨p,0,none⟩), .int .i64 (fr:Int), .int .i64 (se:Int), .int .i64 (ag:Int), .int .i64 (fi:Int), .int .i64 (st:Int),v])∧OwnV 3 w' w.heap.size v (nts S)∧Below w.heap.size w w'
def TrRel (w:World) (p fr se ag fi st:Nat) (z:Value) (S:List Nat) (k:Nat) (i:Value) (wr:World):Prop :=
 ∃ j:Nat,j≤k∧i = .int .i64 (j:Int)∧Whole wr (w.heap.size+1) 120 (lgc p fr se ag fi ((st+(S.take j).sum) % (se - 1)) z)∧Whole wr w.heap.size 120 [.pointer none, .int .i64 0, .int .i64 0, .int .i64 0, .int .i64 0, .int .i64 0, .slice none 0 0]∧Below w.heap.size w wr
theorem nts_ivs (S:List Nat):nts S=ivs (S.map fun n:Nat=>(n:Int)):=by simp [nts,ivs]
theorem RdV.cutAt' {w:World} {b o n k:Nat} {l:List Value} (h:RdV w (some ⟨b,o,none⟩) n l) (hk:k≤n):RdV w (some ⟨b,o+k,none⟩) (n - k) (l.drop k):=by
 refine ⟨by rw [List.length_drop,h.len],fun hn => ?_⟩
 obtain ⟨b',o',e,hb,hc⟩:=h.at_ (by omega)
 injection e with e
 injection e with e1 e2
 subst e1 e2
 refine ⟨_,_,rfl,hb,fun j x hx => ?_⟩
 rw [Nat.add_assoc]
 exact hc _ x (by rw [← hx,List.getElem?_drop])
set_option maxRecDepth 100000 in
set_option maxHeartbeats 4000000 in
theorem without_any {w:World} {g p fr se ag fi st m c k:Nat} {A:Option Addr} {S:List Nat} (hL:LAt w g p fr se ag fi st (.slice A m c)) (hr:RdV w A m (nts S)) (hk:k < m) (hm:m≤1000) (hmc:m≤c) (hc:c≤maxLen) (hst:st < se - 1) (h2:se≤1024) (hfi:fi≤1000000) (hS : ∀ x ∈ S,x≤100) :
  Calls Tryz.prog 119 #[.pointer (some ⟨g,0,none⟩), .int .i64 (k:Int)] w (TrPost w p fr se ag (fi+k) ((st+(S.take k).sum) % (se - 1)) (S.drop k)):=by
 have K4:=Whole.new w #[.pointer none, .int .i64 0, .int .i64 0, .int .i64 0, .int .i64 0, .int .i64 0, .slice none 0 0] 120
 have hB4:Below w.heap.size w (w.alloc (.cells #[.pointer none, .int .i64 0, .int .i64 0, .int .i64 0, .int .i64 0, .int .i64 0, .slice none 0 0] 120)):=(Below.refl _ w).alloc (Nat.le_refl _) _
 have hs4:(w.alloc (.cells #[.pointer none, .int .i64 0, .int .i64 0, .int .i64 0, .int .i64 0, .int .i64 0, .slice none 0 0] 120)).heap.size=w.heap.size+1:=by simp
 have hL4:=hL.below hB4
 have h0:(st+(S.take 0).sum) % (se - 1)=st:=by simp [Nat.mod_eq_of_lt hst]
 have HR:=Lib.hid hr
 have HLw:=Lib.hid hL
 have HA:=Lib.hid (And.intro hst (And.intro h2 (And.intro hfi (And.intro hS (And.intro hmc hc)))))
 clear hL hr hst h2 hfi hS hmc hc
 go_enter Tryz.func119,Tryz.ntmps119
 go_upto_region 1 with (fail)
 generalize w.alloc (.cells _ 120)=W4 at K4 hB4 hs4 hL4 ⊢
 have l0:=hL4.c0
 have l1:=hL4.c1
 have l2:=hL4.c2
 have l3:=hL4.c3
 have l4:=hL4.c4
 have l5:=hL4.c5
 have l6:=hL4.c6
 have H4:=Lib.hid (And.intro K4 (And.intro hB4 (And.intro hs4 hL4)))
 clear K4 hB4 hs4 hL4
 go_upto_region 2 with (fail)
 have K5:=Whole.new W4 #[.pointer (some ⟨p,0,none⟩), .int .i64 (fr:Int), .int .i64 (se:Int), .int .i64 (ag:Int), .int .i64 (fi:Int), .int .i64 (st:Int), .slice A m c] 120
 have hb5:Below W4.heap.size W4 (W4.alloc (.cells #[.pointer (some ⟨p,0,none⟩), .int .i64 (fr:Int), .int .i64 (se:Int), .int .i64 (ag:Int), .int .i64 (fi:Int), .int .i64 (st:Int), .slice A m c] 120)):=(Below.refl _ _).alloc (Nat.le_refl _) _
 generalize W4.alloc (.cells _ 120)=W5 at K5 hb5 ⊢
 obtain ⟨K4,hB4,hs4,hL4⟩:=H4.out
 rw [hs4] at K5 ⊢
 have K4:=K4.below hb5
 have hL5:=hL4.below hb5
 have hB5:=hB4.trans (hb5.mono hB4.size)
 have l6:=hL5.c6
 have h5l:=K5.lt
 have HL5:=Lib.hid hL5
 have H5:=Lib.hid (And.intro K5 (And.intro K4 hB5))
 have H00:=Lib.hid h0
 have hkc:k≤c:=by have:=HA.out.2.2.2.2.1;omega
 clear H4 K4 K5 hB4 hB5 hs4 hL4 hL5 hb5 h0 l0 l1 l2 l3 l4 l5 h5l
 go_wp2_with fail
 go_loopw [18] (TrRel w p fr se ag fi st (.slice A m c) S k) (fun i _=>k - (Go.RowKit.intOf i).toNat)
 case atStart=>exact ⟨0,Nat.zero_le _,rfl,by rw [H00.out];exact H5.out.1,H5.out.2.1,H5.out.2.2⟩
 case round =>
  obtain ⟨j,hj,rfl,h5,h4,hb⟩:=hrel
  by_cases hlt:j < k
  ·obtain ⟨b,off,x,rfl,hbb,hx,hcell⟩:=(HR.out.below hb).cell (j:=j) (by omega)
   obtain ⟨z,hz,rfl⟩ : ∃ z:Nat,S[j]? = some z∧x = .int .i64 (z:Int):=by
    rw [nts,List.getElem?_map] at hx
    cases e:S[j]? with
    | none=>rw [e] at hx;cases hx
    | some z=>rw [e] at hx;injection hx with hx;exact ⟨z,rfl,hx.symm⟩
   obtain ⟨hst,h2,hfi,hS,hmc,hc⟩:=HA.out
   have hz100:=hS z (List.mem_of_getElem? hz)
   obtain ⟨nn,hnn⟩ : ∃ nn,nn=se - 1:=⟨_,rfl⟩
   obtain ⟨a,ha⟩ : ∃ a,a=(st+(S.take j).sum) % nn:=⟨_,rfl⟩
   rw [← hnn, ← ha] at h5
   have han:a < nn:=by rw [ha];exact Nat.mod_lt _ (by omega)
   obtain ⟨a2,ha2⟩ : ∃ a2,a2=(a+z) % nn:=⟨_,rfl⟩
   have hna:(st+(S.take (j+1)).sum) % nn=a2:=by
    rw [ha2,ha,List.take_add_one,hz]
    simp [← Nat.add_assoc]
   have hnn2:nn≤1024:=by omega
   have hw1:IntKind.i64.wrap ((a:Int)+(z:Int))=(a:Int)+(z:Int):=IntWalk.i64_in _ (by omega)
   have ht:Int.tmod ((a:Int)+(z:Int)) (nn:Int)=(a2:Int):=by
    rw [Int.tmod_eq_emod_of_nonneg (by omega),ha2,Int.natCast_emod,Int.natCast_add]
   have ha2l:a2 < nn:=by rw [ha2];exact Nat.mod_lt _ (by omega)
   have hw2:IntKind.i64.wrap (a2:Int)=(a2:Int):=IntWalk.i64_in _ (by omega)
   have hn0 : ¬ (nn:Int)=0:=by omega
   have KR:=ring_any (w:=wr.drew) (HLw.out.below hb.drew) (by omega) h2
   rw [← hnn] at KR
   have c5:wr.cell? ⟨w.heap.size+1,5,none⟩=some (.int .i64 (a:Int)):=h5.cell 5
   have f5:=h5.free 5
   have h5':Whole (wr.setCell ⟨w.heap.size+1,5,none⟩ (.int .i64 (a2:Int))) (w.heap.size+1) 120 (lgc p fr se ag fi a2 (.slice (some ⟨b,off,none⟩) m c)):=h5.set 5 _
   have g5:=grown_set wr (w.heap.size+1) 5 (.int .i64 (a2:Int))
   have h4':=h4.grown g5 (by omega)
   have hb':=below_grown hb g5 hb.size (Nat.le_succ _)
   have HF:=Lib.hid (And.intro h5'.drew (And.intro h4'.drew (And.intro hb'.drew (show (st+(S.take (j+1)).sum) % (se - 1)=a2 by rw [← hnn];exact hna))))
   clear hst h2 hfi hS hmc hc hz hz100 ha ha2 hna hnn2 han ha2l h5 h4 hb h5' g5 h4' hb' hx hnn
   go_upto_region 5 with (fail)
   go_region_with (go_at_call 94;refine KR.mono ?_;rintro e w9 ⟨rfl,hw9⟩;subst hw9)
   all_goals (
    go_wp2_with fail
    go_roundw)
   all_goals first
    | exact ⟨j+1,hlt,by go_num,by rw [HF.out.2.2.2];exact HF.out.1,HF.out.2.1,HF.out.2.2.1⟩
    | (simp [Go.RowKit.intOf];omega)
  ·obtain rfl:j=k:=by omega
   obtain ⟨b,off,x,rfl,hbb,hx,hcell⟩:=(HR.out.below hb).cell (j:=0) (by omega)
   obtain ⟨hst,h2,hfi,hS,hmc,hc⟩:=HA.out
   obtain ⟨a,ha⟩ : ∃ a,a=(st+(S.take j).sum) % (se - 1):=⟨_,rfl⟩
   rw [← ha] at h5
   have Ha:=Lib.hid ha
   have hck : ¬ c=j:=by omega
   obtain ⟨f2,hf2⟩ : ∃ f2,f2=fi+j:=⟨_,rfl⟩
   have hfa:(fi:Int)+(j:Int)=(f2:Int):=by omega
   have hf2l:f2≤2000000:=by omega
   have c4:wr.cell? ⟨w.heap.size+1,4,none⟩=some (.int .i64 (fi:Int)):=h5.cell 4
   have fr4:=h5.free 4
   have h7:Whole (wr.setCell ⟨w.heap.size+1,4,none⟩ (.int .i64 (f2:Int))) (w.heap.size+1) 120 (lgc p fr se ag f2 a (.slice (some ⟨b,off,none⟩) m c)):=h5.set 4 _
   have g7:=grown_set wr (w.heap.size+1) 4 (.int .i64 (f2:Int))
   have h47:=h4.grown g7 (by omega)
   have hb7:=below_grown hb g7 hb.size (Nat.le_succ _)
   have l6':=(HLw.out.below hb7).c6
   have hRI:=(HR.out.below hb7).cutAt' (k:=j) (by omega)
   have KC:=cloneI_any ((S.drop j).map fun n:Nat=>(n:Int)) (some ⟨b,off+j,none⟩) (m - j) (c - j) (wr.setCell ⟨w.heap.size+1,4,none⟩ (.int .i64 (f2:Int))) (by
    show RdV _ _ _ (ivs _)
    rw [← nts_ivs]
    have e:nts (S.drop j)=(nts S).drop j:=by simp [nts,List.map_drop]
    rw [e]
    exact hRI) (by omega)
   unfold GivesI at KC
   rw [← nts_ivs] at KC
   have H7:=Lib.hid (And.intro h7 (And.intro h47 hb7))
   have Hlen:=Lib.hid (show (nts (S.drop j)).length=m - j by
    have:=HR.out.len
    rw [nts_length] at this ⊢
    rw [List.length_drop,this])
   have Hf2:=Lib.hid hf2
   clear hst h2 hfi hS hmc hc ha hf2 h5 h4 hb h7 g7 h47 hb7 hRI hx hcell
   go_upto_region 9 with (go_at_call 44;refine KC.mono ?_;rintro e w8 ⟨v8,rfl,o8,b8⟩;obtain ⟨A8,c8,rfl,_,_,_⟩:=o8.shape Hlen.out;have h8:=H7.out.1.below b8;have c6':=h8.cell 6;have fr6:=h8.free 6;have H8:=Lib.hid (And.intro h8 (And.intro (H7.out.2.1.below b8) (And.intro (H7.out.2.2.trans (b8.mono H7.out.2.2.size)) (And.intro o8 (And.intro b8 H7.out.2.2.size)))));clear h8 o8 b8 KC)
   have h9:Whole (w8.setCell ⟨w.heap.size+1,6,none⟩ (.slice A8 (m - j) c8)) (w.heap.size+1) 120 (lgc p fr se ag f2 a (.slice A8 (m - j) c8)):=H8.out.1.set 6 _
   have g9:=grown_set w8 (w.heap.size+1) 6 (.slice A8 (m - j) c8)
   have Z:=H8.out.2.1.grown g9 (by omega)
   have o9:=H8.out.2.2.2.1.grown g9 (fun e=>by
    have h1:=(H8.out.2.2.2.1.lt _ e).1
    have h2:=H7.out.1.lt
    omega)
   have b9:=below_grown H8.out.2.2.1 g9 H8.out.2.2.1.size (Nat.le_succ _)
   have hwW:w.heap.size≤(wr.setCell ⟨w.heap.size+1,4,none⟩ (.int .i64 (f2:Int))).heap.size:=H8.out.2.2.2.2.2
   clear H8 c6' fr6
   generalize w8.setCell ⟨w.heap.size+1,6,none⟩ (.slice A8 (m - j) c8)=W9 at h9 g9 Z o9 b9 ⊢
   have z0:W9.cell? ⟨w.heap.size,0,none⟩=some _:=Z.cell 0
   have z1:W9.cell? ⟨w.heap.size,1,none⟩=some _:=Z.cell 1
   have z2:W9.cell? ⟨w.heap.size,2,none⟩=some _:=Z.cell 2
   have z3:W9.cell? ⟨w.heap.size,3,none⟩=some _:=Z.cell 3
   have z4:W9.cell? ⟨w.heap.size,4,none⟩=some _:=Z.cell 4
   have z5:W9.cell? ⟨w.heap.size,5,none⟩=some _:=Z.cell 5
   have z6:W9.cell? ⟨w.heap.size,6,none⟩=some _:=Z.cell 6
   have fz:=Z.free
   have y0:W9.cell? ⟨w.heap.size+1,0,none⟩=some _:=h9.cell 0
   have y1:W9.cell? ⟨w.heap.size+1,1,none⟩=some _:=h9.cell 1
   have y2:W9.cell? ⟨w.heap.size+1,2,none⟩=some _:=h9.cell 2
   have y3:W9.cell? ⟨w.heap.size+1,3,none⟩=some _:=h9.cell 3
   have y4:W9.cell? ⟨w.heap.size+1,4,none⟩=some _:=h9.cell 4
   have y5:W9.cell? ⟨w.heap.size+1,5,none⟩=some _:=h9.cell 5
   have y6:W9.cell? ⟨w.heap.size+1,6,none⟩=some _:=h9.cell 6
   have gz:=(grown_trans (grown_trans (grown_trans (grown_trans (grown_trans (grown_trans (grown_set W9 w.heap.size 0 (.pointer (some ⟨p,0,none⟩))) (grown_set _ w.heap.size 1 (.int .i64 (fr:Int)))) (grown_set _ w.heap.size 2 (.int .i64 (se:Int)))) (grown_set _ w.heap.size 3 (.int .i64 (ag:Int)))) (grown_set _ w.heap.size 4 (.int .i64 (f2:Int)))) (grown_set _ w.heap.size 5 (.int .i64 (a:Int)))) (grown_set _ w.heap.size 6 (.slice A8 (m - j) c8)))
   have kz:=((((((Z.set 0 (.pointer (some ⟨p,0,none⟩))).set 1 (.int .i64 (fr:Int))).set 2 (.int .i64 (se:Int))).set 3 (.int .i64 (ag:Int))).set 4 (.int .i64 (f2:Int))).set 5 (.int .i64 (a:Int))).set 6 (.slice A8 (m - j) c8)
   have oz:=(o9.grown gz (fun e=>by
    have h1:=(o9.lt _ e).1
    have h2:=H7.out.1.lt
    omega)).mono (base':=w.heap.size) hwW
   have bz:=below_grown b9 gz b9.size (Nat.le_refl _)
   have HF:=Lib.hid (And.intro kz (And.intro oz bz))
   clear h9 g9 Z o9 b9 gz kz oz bz hwW hf2l
   go_wp2_with fail
   refine bodyPost_ret (lg_results rfl _ _ w.heap.size _ rfl HF.out.1 Tryz.underlying120 (by kernel_rfl)) rfl ?_
   exact ⟨.slice A8 (m - j) c8,by rw [← Hf2.out, ← Ha.out];rfl,HF.out.2.1,HF.out.2.2⟩
end Go.Proofs.YtcodpnbemdflcaaGreatDoor
namespace Go.Proofs.YtcodpnbemdflcaaGreatDoor
open Go.RowKit
set_option maxRecDepth 20000 in
set_option maxHeartbeats 1000000 in
theorem caught_meth {f:FuncId} {v:Value} {w:World} {Q:World→Prop} (he : ∀ (args:Array Value) (w:World),(callFunc f args).run Tryz.prog w = .ok (.enter f args) w)
  (hc:Calls Tryz.prog f #[v] (w.alloc (.cells #[.int .i64 0] 29)) (fun e w'=>e = .returned (.tuple #[])∧Q w'))
  (hQ : ∀ w',Q w'→Whole w' w.heap.size 29 [.int .i64 0]) :
  Calls Tryz.prog 65 #[.func (.func f) #[v] #[]] w (CaughtPost w Q):=by
 have hmf : ∀ (fn:Fn) (first cap:Array Value) (w:World),(Instr.makeFunc fn first cap).run Tryz.prog w = .ok (.func fn first cap) w:=fun _ _ _ _=>rfl
 have HC:=Lib.hid hc
 have HQ:=Lib.hid hQ
 clear hc hQ
 go_enter_defers Tryz.func65,Tryz.ntmps65
 go_wp2_with fail
 refine HC.out.mono ?_
 rintro e w1 ⟨rfl,q⟩
 have hK:=HQ.out w1 q
 have c0:=hK.cell 0
 have f0:=hK.free 0
 simp only [List.getElem?_cons_zero] at c0
 have hK2:=hK.set 0 (.int .i64 0)
 have HF:=Lib.hid (And.intro hK2 q)
 clear q hK hK2
 dsimp only
 go_wp2
 refine leaves_cons (f:=102) (args := #[.pointer (some ⟨w.heap.size,0,none⟩)]) (by simp) (by simp [go_sem]) ?_
 refine (caught_idle _ _).mono ?_
 rintro e u' w'' ⟨rfl,rfl,rfl⟩
 refine ⟨_,lg_results_errno rfl _ _ _ _ rfl HF.out.1,rfl,w1,HF.out.2,rfl⟩
theorem szs_sum (L:List (List UInt8)) (k:Nat):((szs L L.length).take k).sum=off L k:=by
 unfold szs off
 rw [List.take_of_length_le (Nat.le_refl _), ← List.map_take]
theorem szs_drop (L:List (List UInt8)) (k:Nat):(szs L L.length).drop k=szs (L.drop k) (L.drop k).length:=by
 unfold szs
 rw [List.take_of_length_le (Nat.le_refl _),List.take_of_length_le (Nat.le_refl _),List.map_drop]
def TmLa (w:World) (base g p q r n A F:Nat) (L:List (List UInt8)) (e:Ending) (w':World):Prop :=
 ∃ vs st S,e = .returned (.int .i64 0)∧LogAt w' base g p q r n vs A F st L S∧(∀ i,S.had i=none)∧Oth (fun k=>k=g∨ds p q r k) w w' ∧ ∀ k,vs.ownBlock=some k→w.heap.size≤k
set_option maxRecDepth 100000 in
set_option maxHeartbeats 4000000 in
theorem trim_la {w:World} {base g p q r n A F st k:Nat} {vs:Value} {L:List (List UInt8)} {S:Dk} (h:LogAt w base g p q r n vs A F st L S) (hn:256≤n) (hb:base≤w.heap.size) (hk:k < L.length) (hA:A≤1000000) (hF:F+L.length≤1000000) (hl:L.length≤1000) :
  Calls Tryz.prog 73 #[.pointer (some ⟨g,0,none⟩), .int .i64 ((F+k:Nat):Int)] w (TmLa w base g p q r n A (F+k) (L.drop k)):=by
 obtain ⟨cnt,ag,C,hd⟩:=h.lg
 have hst:=hd.ring.sn
 have hlen:=hd.ring.len
 obtain ⟨m,hm⟩ : ∃ m,m=L.length:=⟨_,rfl⟩
 have hml:(nts (szs L L.length)).length=m:=by rw [szs_all,hm]
 obtain ⟨As,cs,rfl,hmc,hcm,hrd⟩:=h.sz.shape hml
 have hsx : ∀ x ∈ szs L L.length,x≤100:=fun x hx=>by
  simp only [szs,List.mem_map] at hx
  obtain ⟨u,hu,rfl⟩:=hx
  have:=hlen u (List.mem_of_mem_take hu)
  unfold np
  omega
 have KN:=fun (W:World) (hW:Below w.heap.size w W)=>none_any (h.la.below hW)
 have KX:=fun (W:World) (hW:Below w.heap.size w W)=>lnext_any (h.la.below hW) (by omega)
 have KW:=fun (W:World) (hW:Below w.heap.size w W)=>without_any (k:=k) (h.la.below hW) (hrd.below hW) (by omega) (by omega) hmc hcm hst (by decide) (by omega) hsx
 rw [szs_sum L k,szs_drop] at KW
 obtain ⟨f2,hf2⟩ : ∃ f2,f2=F+k:=⟨_,rfl⟩
 obtain ⟨st2,hst2⟩ : ∃ st2,st2=(st+off L k) % (256 - 1):=⟨_,rfl⟩
 rw [← hf2, ← hst2] at KW
 rw [← hf2]
 unfold TrPost at KW
 have l4:=fun (W:World) (hW:Below w.heap.size w W)=>(h.la.below hW).c4
 have d1 : ¬ ((f2:Int) < (F:Int)):=by omega
 have d2 : ¬ (((F+m:Nat):Int) < (f2:Int)):=by omega
 have d3:(f2:Int) - (F:Int)=(k:Int):=by omega
 obtain ⟨m3,hm3⟩ : ∃ m3,(L.drop k).length=m3:=⟨_,rfl⟩
 have Hm3:=Lib.hid (And.intro hm3 (show (nts (szs (L.drop k) (L.drop k).length)).length=m3 by rw [szs_all,hm3]))
 have hm3l:m3≤1000:=by rw [← hm3,List.length_drop];omega
 clear hm3
 have hFl:F≤1000000:=by omega
 have hf2l:f2≤1000000:=by omega
 have hkl:k≤1000:=by omega
 have HH:=Lib.hid (And.intro h hd)
 have HA:=Lib.hid (And.intro hn (And.intro hb (And.intro hA (And.intro hF hl))))
 have HM:=Lib.hid (And.intro hm (And.intro hf2 (And.intro hst2 hk)))
 have l40:=l4 w (Below.refl _ _)
 clear h hd hst hlen hm hml hmc hcm hrd hsx hf2 hst2 hn hb hA hF hl hk
 go_enter Tryz.func73,Tryz.ntmps73
 go_upto_region 3 with (go_at_call 57;refine (KN _ (Below.refl _ _)).mono ?_;rintro e w1 ⟨rfl,hw1⟩;have hw1:=hw1.symm;subst hw1)
 have KX0:=KX w (Below.refl _ _)
 go_upto_region 5 with (go_at_call 74;refine KX0.mono ?_;rintro e w2 ⟨rfl,b2⟩;have l42:=l4 _ b2;have KW2:=KW _ b2;have B2:=Lib.hid b2;clear b2 KX0 KW)
 go_upto_region 6 with (go_at_call 119;refine KW2.mono ?_;rintro e w3 ⟨v3,rfl,o3,b3⟩;obtain ⟨A3,c3,rfl,_,_,_⟩:=o3.shape Hm3.out.2;have H3:=Lib.hid (And.intro o3 (And.intro b3 (B2.out.trans (b3.mono B2.out.size))));clear KW2 o3 b3)
 have KT:=Whole.new w3 #[.pointer (some ⟨p,0,none⟩), .int .i64 ((0:Nat):Int), .int .i64 ((256:Nat):Int), .int .i64 (A:Int), .int .i64 (f2:Int), .int .i64 (st2:Int), .slice A3 m3 c3] 120
 have b34:Below w3.heap.size w3 (w3.alloc (.cells #[.pointer (some ⟨p,0,none⟩), .int .i64 0, .int .i64 256, .int .i64 (A:Int), .int .i64 (f2:Int), .int .i64 (st2:Int), .slice A3 m3 c3] 120)):=(Below.refl _ _).alloc (Nat.le_refl _) _
 change Whole (w3.alloc (.cells #[.pointer (some ⟨p,0,none⟩), .int .i64 0, .int .i64 256, .int .i64 (A:Int), .int .i64 (f2:Int), .int .i64 (st2:Int), .slice A3 m3 c3] 120)) w3.heap.size 120 (lgc p 0 256 A f2 st2 (.slice A3 m3 c3)) at KT
 have hs4:(w3.alloc (.cells #[.pointer (some ⟨p,0,none⟩), .int .i64 0, .int .i64 256, .int .i64 (A:Int), .int .i64 (f2:Int), .int .i64 (st2:Int), .slice A3 m3 c3] 120)).heap.size=w3.heap.size+1:=by simp
 generalize w3.alloc (.cells _ 120)=W4 at KT b34 hs4 ⊢
 obtain ⟨o3,b23,bw3⟩:=H3.out
 have bw4:=bw3.trans (b34.mono bw3.size)
 have o4:=o3.below b34
 obtain ⟨hLA,hd⟩:=HH.out
 obtain ⟨hm,hf2,hst2,hk⟩:=HM.out
 obtain ⟨hn,hb,hA,hF,hl⟩:=HA.out
 have hdl : ∀ k,ds p q r k→k < w.heap.size:=fun k hk=>hLA.dk.lt hk
 have bE:Below W4.heap.size W4 (W4.alloc (.cells #[.int .i64 0] 29)):=(Below.refl _ _).alloc (Nat.le_refl _) _
 have hst2l:st2 < 256:=by rw [hst2];exact Nat.lt_of_lt_of_le (Nat.mod_lt _ (by decide)) (by decide)
 have KE:=Whole.new W4 #[.int .i64 0] 29
 have hset:=settle_any (w:=W4.alloc (.cells #[.int .i64 0] 29)) (LAt.below (show LAt W4 w3.heap.size p 0 256 A f2 st2 (.slice A3 m3 c3) from KT) (bE.mono (by omega))) (hLA.dk.keep (bw4.trans (bE.mono bw4.size)).size fun k hk=>(bw4.trans (bE.mono bw4.size)).block k (hdl k hk)) hd.goes (fun hx=>by have:=hdl _ hx;have:=bw3.size;omega) (by omega) (by decide) (by omega) (by omega) (by omega) (by omega)
 unfold Did at hset
 obtain ⟨T1,hT1⟩ : ∃ T1,T1=settleS S 0 256 A f2 st2 m3:=⟨_,rfl⟩
 rw [← hT1] at hset
 have hca:=caught_meth (f:=68) (Q:=fun w'=>DAt w' p q r n T1∧Oth (ds p q r) (W4.alloc (.cells #[.int .i64 0] 29)) w') (Go.Proofs.enters_of Tryz.func68 (by kernel_rfl) rfl) hset (fun w' hq=>KE.keep (hq.2.block _ KE.lt fun h=>by have:=hdl _ h;have:=bw4.size;omega))
 have HCA:=Lib.hid hca
 have H4:=Lib.hid (And.intro KT (And.intro o4 (And.intro bw4 (And.intro bE (And.intro hT1 (And.intro hs4 (And.intro b34 b23)))))))
 have hmf : ∀ (fn:Fn) (first cap:Array Value) (w:World),(Instr.makeFunc fn first cap).run Tryz.prog w = .ok (.func fn first cap) w:=fun _ _ _ _=>rfl
 clear KT b34 hs4 o3 b23 bw3 bw4 o4 hLA hd hm hf2 hst2 hk hn hb hA hF hl hdl bE hst2l KE hset hca hT1 KN KX l4 l40 l42 d1 d2 d3
 go_upto_region 7 with fail
 refine HCA.out.mono ?_
 rintro e w7 ⟨rfl,w6,⟨hD6,hO6⟩,rfl⟩
 obtain ⟨KT,o4,bw4,bE,hT1,hs4,b34,b23⟩:=H4.out
 obtain ⟨hLA,hd⟩:=HH.out
 have hdl : ∀ k,ds p q r k→k < w.heap.size:=fun k hk=>hLA.dk.lt hk
 have hgl:=hLA.la.lt
 have hgx:=hLA.gx
 have ht3:w.heap.size≤w3.heap.size:=H3.out.2.2.size
 have h23:=b23.size
 have hgs:=grown_set w6 W4.heap.size 0 (.int .i64 0)
 have ho7:Oth (fun k=>ds p q r k∨k=W4.heap.size) W4 (w6.setCell ⟨W4.heap.size,0,none⟩ (.int .i64 0)):=((Oth.of_below bE _).trans (hO6.mono fun k hk => .inl hk)).trans (Oth.of_grown hgs (.inr rfl))
 have hD7:DAt (w6.setCell ⟨W4.heap.size,0,none⟩ (.int .i64 0)) p q r n T1:=hD6.grownBy hgs (fun h=>by have:=hdl _ h;omega)
 have hnx : ∀ k,k < W4.heap.size → ¬ ds p q r k → ¬ (ds p q r k∨k=W4.heap.size):=fun k h1 h2 h=>by
  rcases h with h | h
  ·exact h2 h
  ·omega
 have KT7:Whole (w6.setCell ⟨W4.heap.size,0,none⟩ (.int .i64 0)) w3.heap.size 120 (lgc p 0 256 A f2 st2 (.slice A3 m3 c3)):=KT.keep (ho7.block _ KT.lt (hnx _ KT.lt (fun h=>by have:=hdl _ h;omega)))
 have hg4:g < W4.heap.size:=by omega
 have LG7:=(hLA.la.below bw4).keep (ho7.block _ hg4 (hnx _ hg4 hgx))
 have o7:=o4.keep fun k hk=>ho7.block k (o4.lt k hk).2 (hnx k (o4.lt k hk).2 (fun h=>by have:=hdl _ h;have:=(o4.lt k hk).1;have:=bw4.size;have:=H3.out.2.2.size;have:=B2.out.size;omega))
 have b7:Oth (fun k=>k=g∨ds p q r k) w (w6.setCell ⟨W4.heap.size,0,none⟩ (.int .i64 0)):=(Oth.of_below bw4 _).fresh ho7 fun k hk hy=>by
  rcases hy with h | h
  ·exact .inr h
  ·omega
 have hB2:=B2.out.size
 clear HCA KT o4 bw4 bE hs4 b34 b23 hO6 hD6 hgs ho7 hnx
 generalize w6.setCell ⟨W4.heap.size,0,none⟩ (.int .i64 0)=W7 at hD7 KT7 LG7 o7 b7 ⊢
 have y0:W7.cell? ⟨w3.heap.size,0,none⟩=some (.pointer (some ⟨p,0,none⟩)):=KT7.cell 0
 have y1:W7.cell? ⟨w3.heap.size,1,none⟩=some (.int .i64 0):=KT7.cell 1
 have y2:W7.cell? ⟨w3.heap.size,2,none⟩=some (.int .i64 256):=KT7.cell 2
 have y3:W7.cell? ⟨w3.heap.size,3,none⟩=some _:=KT7.cell 3
 have y4:W7.cell? ⟨w3.heap.size,4,none⟩=some _:=KT7.cell 4
 have y5:W7.cell? ⟨w3.heap.size,5,none⟩=some _:=KT7.cell 5
 have y6:W7.cell? ⟨w3.heap.size,6,none⟩=some _:=KT7.cell 6
 have z0:=LG7.c0
 have z1:=LG7.c1
 have z2:=LG7.c2
 have z3:=LG7.c3
 have z4:=LG7.c4
 have z5:=LG7.c5
 have z6:=LG7.c6
 have fz:=LG7.free
 have gz:=(grown_trans (grown_trans (grown_trans (grown_trans (grown_trans (grown_trans (grown_set W7 g 0 (.pointer (some ⟨p,0,none⟩))) (grown_set _ g 1 (.int .i64 0))) (grown_set _ g 2 (.int .i64 256))) (grown_set _ g 3 (.int .i64 (A:Int)))) (grown_set _ g 4 (.int .i64 (f2:Int)))) (grown_set _ g 5 (.int .i64 (st2:Int)))) (grown_set _ g 6 (.slice A3 m3 c3)))
 have kz:=((((((Whole.set (show Whole W7 g 120 (lgc p 0 256 A F st (.slice As m cs)) from LG7) 0 (.pointer (some ⟨p,0,none⟩))).set 1 (.int .i64 0)).set 2 (.int .i64 256)).set 3 (.int .i64 (A:Int))).set 4 (.int .i64 (f2:Int))).set 5 (.int .i64 (st2:Int))).set 6 (.slice A3 m3 c3)
 have hgs3:(Value.slice A3 m3 c3).ownBlock≠some g:=fun e=>by
  have:=(o7.lt _ e).1
  omega
 have oz:=o7.grown gz hgs3
 have dz:=hD7.grownBy gz hgx
 have bz:=b7.fresh (Oth.of_grown (X:=fun k=>k=g∨ds p q r k) gz (.inl rfl)) fun _ _ hy=>hy
 have hvx : ∀ k,(Value.slice A3 m3 c3).ownBlock=some k→w.heap.size≤k:=fun k hk=>by
  have:=(o7.lt k hk).1
  omega
 have HF:=Lib.hid (And.intro kz (And.intro oz (And.intro dz (And.intro bz hvx))))
 have HG:=Lib.hid (And.intro hT1 (And.intro hd (And.intro hgx (And.intro hdl hB2))))
 clear kz oz dz bz gz hvx hgs3 hD7 KT7 LG7 o7 b7 hT1 hd hgx hdl hgl ht3 h23 hB2 hg4 hLA HH H3 B2 H4
 go_wp2
 go_ret
 obtain ⟨hT1,hd,hgx,hdl,hB2⟩:=HG.out
 obtain ⟨hm,hf2,hst2,hk⟩:=HM.out
 obtain ⟨hn,hb,hA,hF,hl⟩:=HA.out
 obtain ⟨q1,q2,q3,q4,q5⟩:=HF.out
 have hh:=hd.settle (A':=A) (k:=k) (Nat.le_refl _) hA (by omega) hF (by decide)
 rw [Hm3.out.1, ← hf2,show (st+off L k) % 255=st2 from hst2.symm,show settleS S 0 (255+1) A f2 st2 m3=T1 from hT1.symm] at hh
 exact ⟨.slice A3 m3 c3,st2,T1,rfl,⟨⟨_,_,_,hh⟩,q1,q2.mono (by omega),q3,hgx,fun k hk hx=>by have:=q5 k hk;have:=hdl k hx;omega⟩,fun i=>by rw [hT1,settleS_had],q4,q5⟩
end Go.Proofs.YtcodpnbemdflcaaGreatDoor

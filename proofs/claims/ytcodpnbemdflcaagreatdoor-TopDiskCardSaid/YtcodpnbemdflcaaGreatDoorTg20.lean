/-
  Whether a heap is right; a new one; the document's new one: contracts.
  A new heap, the program's and the document's: contracts.
  The law's question of a new heap: contract.
-/
import Derived.Test.YtcodpnbemdflcaaGreatDoorTg19
namespace Go.Proofs.YtcodpnbemdflcaaGreatDoor
open Go.RowKit
instance (H:Hp):Decidable (LinksR H):=by unfold LinksR;infer_instance
def LlRel (W:World) (H:Hp) (i:Value) (wr:World):Prop := ∃ k:Nat,k≤H.obs.length∧i = .int .i64 (k:Int)∧(∀ j x,j < k→H.obs[j]? = some x → ∀ t ∈ x.ls,mayL H.obs t=true)∧Grew W wr
theorem all_leads (H:Hp) (l:List Int):(∀ t ∈ l,mayL H.obs t=true) ↔ ∀ t ∈ l,Leads H t:=by
 constructor
 ·intro h t ht
  have:=h t ht
  rw [mayL_leads] at this
  exact of_decide_eq_true this
 ·intro h t ht
  rw [mayL_leads]
  exact decide_eq_true (h t ht)
theorem tp_list {H:Hp} (h:H.tp.length=4):H.tp = [tget H 0,tget H 1,tget H 2,tget H 3]:=by
 unfold tget
 match H.tp,h with
 | [a,b,c,d],_=>rfl
set_option maxRecDepth 100000 in
set_option maxHeartbeats 4000000 in
theorem linksLead_any (s:HSl) (H:Hp) (w:World) (h:RdH w s H) (hS:SmallH H) (ho:ObsR H) :
  Calls Tryz.prog 41 #[hval H s] w (Says w (.bool (decide (LinksR H)))):=by
 have g1:=(Grew.refl w).alloc (.cells (hcs H s).toArray 28)
 have K1:=Whole.new w (hcs H s).toArray 28
 have HO:=h.obs.below g1.below
 have S:=Lib.hid fun (W:World) (gr:Grew (w.alloc (.cells (hcs H s).toArray 28)) W) (B:Option Addr) (q qc:Nat) (l:List Int) (hl:RdI W B q l) (hq:q≤10000)=>containsLead_any w.heap.size H s B q qc l W (K1.below gr.below) (HO.below gr.below) (by have:=h.obs.len;have:=hS.1;omega) ho.2.1 hl hq
 have hlen:=Lib.hid h.obs.len
 have htp:=Lib.hid (tp_list h.tp)
 have hS1:=hS.1
 have HS:=Lib.hid hS.2.2
 have HOH:=Lib.hid HO
 have K1H:=Lib.hid K1
 obtain ⟨A,n,c,F,m,d⟩:=s
 obtain ⟨v,hv⟩ : ∃ v,v=decide (LinksR H):=⟨_,rfl⟩
 rw [← hv]
 have HV:=Lib.hid hv
 have hn600:n≤600:=by have:=hlen.out;simp only at this;omega
 clear h hS ho HO K1 hv
 simp only [hval,hcs] at *
 have c1:=K1H.out.cell 1
 simp only [List.getElem?_cons_succ,List.getElem?_cons_zero] at c1
 go_enter Tryz.func41,Tryz.ntmps41
 go_upto_region 3 with (fail)
 clear c1
 have hG:=Lib.hid g1
 generalize hW:w.alloc (.cells _ 28)=W at K1H HOH hG S ⊢
 have HW:=Lib.hid hW
 clear hW g1
 go_loopw [10] (LlRel W H) (fun i _=>n - (intOf i).toNat)
 case atStart=>exact ⟨0,Nat.zero_le _,rfl,(fun j x hj=>absurd hj (Nat.not_lt_zero _)),Grew.refl _⟩
 case round =>
  obtain ⟨k,hk,rfl,hno,gr⟩:=hrel
  have Hno:=Lib.hid hno
  have hkn:k≤n:=by have:=hlen.out;omega
  clear hno hk
  by_cases hlt:k < n
  ·obtain ⟨b',off,x,rfl,hbl,hx,A1,n1,f1,B1,m1,d1,h0,h1,h2,h3,h4,r5,r6⟩:=HOH.out.get hlt
   have z0:=(gr.below.cell (p:=⟨b',off+k*5,none⟩) hbl).trans h0
   have z1:=(gr.below.cell (p:=⟨b',off+k*5+1,none⟩) hbl).trans h1
   have z2:=(gr.below.cell (p:=⟨b',off+k*5+2,none⟩) hbl).trans h2
   have z3:=(gr.below.cell (p:=⟨b',off+k*5+3,none⟩) hbl).trans h3
   have z4:=(gr.below.cell (p:=⟨b',off+k*5+4,none⟩) hbl).trans h4
   have hki:(k:Int) < (n:Int):=by omega
   have g3:=(Grew.refl wr).alloc (.cells #[.int .i64 x.hd, .int .i64 x.bl.1, .int .i64 x.bl.2, .slice A1 n1 f1, .slice B1 m1 d1] 60)
   have Kx:=Whole.new wr #[.int .i64 x.hd, .int .i64 x.bl.1, .int .i64 x.bl.2, .slice A1 n1 f1, .slice B1 m1 d1] 60
   have S1:=S.out _ (gr.trans g3) B1 m1 d1 x.ls (r6.below (gr.trans g3).below) (by have:=(HS.out x (List.mem_of_getElem? hx)).2;have:=r6.len;omega)
   have Hx:=Lib.hid hx
   have y4:=Kx.cell 4
   simp only [List.getElem?_cons_succ,List.getElem?_cons_zero] at y4
   have G3:=Lib.hid (gr.trans g3)
   clear h0 h1 h2 h3 h4 r5 r6 hx Kx g3
   by_cases hd : ∀ t ∈ x.ls,mayL H.obs t=true
   ·rw [decide_eq_true hd] at S1
    have Hd:=Lib.hid hd
    clear hd
    go_wp2_with (go_at_call 82;refine S1.mono ?_;rintro e w4 ⟨rfl,g4⟩)
    go_roundw
    case rel=>exact ⟨k+1,by have:=hlen.out;omega,by go_num,fun j y hj hy=>by
     rcases Nat.lt_or_ge j k with e | e
     ·exact Hno.out j y e hy
     ·obtain rfl:j=k:=by omega
      rw [Hx.out] at hy;injection hy with hy;rw [← hy];exact Hd.out,G3.out.trans g4⟩
    case measure=>simp [intOf];omega
   ·rw [decide_eq_false hd] at S1
    have Hd:=Lib.hid (show v=false from HV.out.trans (decide_eq_false fun r=>hd ((all_leads H x.ls).2 (r.1 x (List.mem_of_getElem? Hx.out)))))
    clear hd
    go_wp2_with (go_at_call 82;refine S1.mono ?_;rintro e w4 ⟨rfl,g4⟩)
    go_ret
    exact ⟨by rw [Hd.out];rfl,hG.out.trans (G3.out.trans g4)⟩
  ·obtain rfl:k=n:=by omega
   have KW:=K1H.out.below gr.below
   have S1:=S.out wr gr (some ⟨w.heap.size,3,none⟩) 4 4 H.tp ⟨by rw [ivs_length,htp.out];rfl,fun _=>⟨w.heap.size,3,rfl,KW.lt,fun j u hu=>by
    rw [KW.cell]
    rw [htp.out] at hu
    match j,hu with
    | 0,hu=>simpa [ivs] using hu
    | 1,hu=>simpa [ivs] using hu
    | 2,hu=>simpa [ivs] using hu
    | 3,hu=>simpa [ivs] using hu
    | j+4,hu=>simp [ivs] at hu⟩⟩ (by omega)
   have Hall:=Lib.hid (show ∀ x ∈ H.obs, ∀ t ∈ x.ls,Leads H t from fun x hx=>by
    obtain ⟨j,hj,e⟩:=List.getElem_of_mem hx
    exact (all_leads H x.ls).1 (Hno.out j x (by have:=hlen.out;omega) (by rw [List.getElem?_eq_getElem hj,e])))
   have u3:=Tryz.underlying25
   clear KW
   by_cases hd : ∀ t ∈ H.tp,mayL H.obs t=true
   ·rw [decide_eq_true hd] at S1
    have Hd:=Lib.hid (show v=true from HV.out.trans (decide_eq_true ⟨Hall.out,(all_leads H H.tp).1 hd⟩))
    clear hd
    go_wp2_with (go_at_call 82;refine S1.mono ?_;rintro e w4 ⟨rfl,g4⟩)
    go_ret
    exact ⟨by rw [Hd.out];rfl,hG.out.trans (gr.trans g4)⟩
   ·rw [decide_eq_false hd] at S1
    have Hd:=Lib.hid (show v=false from HV.out.trans (decide_eq_false fun r=>hd ((all_leads H H.tp).2 r.2)))
    clear hd
    go_wp2_with (go_at_call 82;refine S1.mono ?_;rintro e w4 ⟨rfl,g4⟩)
    go_ret
    exact ⟨by rw [Hd.out];rfl,hG.out.trans (gr.trans g4)⟩
def chkH (H:Hp):Int:=if RightH H then 0 else 1
theorem chkH_yes {H:Hp} (h:RightH H):chkH H=0:=if_pos h
theorem chkH_no {H:Hp} (h : ¬ RightH H):chkH H=1:=if_neg h
set_option maxHeartbeats 2000000 in
theorem check_heap (s:HSl) (H:Hp) (w:World) (h:RdH w s H) (hS:SmallH H) (hT:Tab w) :
  Calls Tryz.prog 21 #[hval H s] w (Tells w (.int .i64 (chkH H))):=by
 have g1:=(Grew.refl w).alloc (.cells (hcs H s).toArray 28)
 have K1:=Whole.new w (hcs H s).toArray 28
 have h1:=h.below g1.below
 have hT1:=hT.below g1.below
 have S1:=objectsRight_any s H _ h1 hS
 have S2:=Lib.hid fun (W:World) (b:Below (w.alloc (.cells (hcs H s).toArray 28)).heap.size (w.alloc (.cells (hcs H s).toArray 28)) W)=>freeRight_any s H W (h1.below b) hS (hT1.below b)
 have S3:=Lib.hid fun (W:World) (b:Below (w.alloc (.cells (hcs H s).toArray 28)).heap.size (w.alloc (.cells (hcs H s).toArray 28)) W) ho hf=>blocksFill_any s H W (h1.below b) hS ho hf
 have S4:=Lib.hid fun (W:World) (b:Below (w.alloc (.cells (hcs H s).toArray 28)).heap.size (w.alloc (.cells (hcs H s).toArray 28)) W) ho=>linksLead_any s H W (h1.below b) hS ho
 have KH:=Lib.hid K1
 have hb:=Lib.hid g1.below
 obtain ⟨v,hv⟩ : ∃ v,v=chkH H:=⟨_,rfl⟩
 rw [← hv]
 have HV:=Lib.hid hv
 obtain ⟨A,n,c,F,m,d⟩:=s
 clear h hS hT h1 hT1 K1 g1 hv
 simp only [hval,hcs] at *
 generalize hW:w.alloc (.cells _ 28)=W at S1 S2 S3 S4 KH hb
 have c0:=KH.out.cell 0
 have c1:=KH.out.cell 1
 have c2:=KH.out.cell 2
 have c3:=KH.out.cell 3
 have c4:=KH.out.cell 4
 have c5:=KH.out.cell 5
 have c6:=KH.out.cell 6
 have c7:=KH.out.cell 7
 simp only [List.getElem?_cons_succ,List.getElem?_cons_zero] at c0 c1 c2 c3 c4 c5 c6 c7
 by_cases ho:ObsR H
 case neg =>
  rw [decide_eq_false ho] at S1
  have Hd:=Lib.hid (show v=1 from HV.out.trans (chkH_no fun r=>ho (rightH_obs r)))
  clear ho
  go_enter Tryz.func21,Tryz.ntmps21
  go_upto_region 1 with (fail)
  try rw [hW]
  clear hW
  go_wp2_with (go_at_call 38;refine S1.mono ?_;rintro e w1 ⟨rfl,b1⟩)
  go_ret
  exact ⟨by rw [Hd.out];rfl,hb.out.trans (b1.below.mono hb.out.size)⟩
 rw [decide_eq_true ho] at S1
 have Ho:=Lib.hid ho
 clear ho
 by_cases hf:Right H.od H.fr
 case neg =>
  rw [decide_eq_false hf] at S2
  have Hd:=Lib.hid (show v=1 from HV.out.trans (chkH_no fun r=>hf r.fr))
  clear hf
  go_enter Tryz.func21,Tryz.ntmps21
  go_upto_region 1 with (fail)
  try rw [hW]
  clear hW
  go_wp2_with (first | (go_at_call 38;refine S1.mono ?_;rintro e w1 ⟨rfl,b1⟩;have e0:=((b1.below).cell (p:=⟨w.heap.size,0,none⟩) KH.out.lt).trans c0;have e1:=((b1.below).cell (p:=⟨w.heap.size,1,none⟩) KH.out.lt).trans c1;have e2:=((b1.below).cell (p:=⟨w.heap.size,2,none⟩) KH.out.lt).trans c2;have e3:=((b1.below).cell (p:=⟨w.heap.size,3,none⟩) KH.out.lt).trans c3;have e4:=((b1.below).cell (p:=⟨w.heap.size,4,none⟩) KH.out.lt).trans c4;have e5:=((b1.below).cell (p:=⟨w.heap.size,5,none⟩) KH.out.lt).trans c5;have e6:=((b1.below).cell (p:=⟨w.heap.size,6,none⟩) KH.out.lt).trans c6;have e7:=((b1.below).cell (p:=⟨w.heap.size,7,none⟩) KH.out.lt).trans c7) | (go_at_call 39;refine (S2.out _ b1.below).mono ?_;rintro e w2 ⟨rfl,b2⟩))
  go_ret
  exact ⟨by rw [Hd.out];rfl,hb.out.trans ((b1.below.trans (b2.mono b1.below.size)).mono hb.out.size)⟩
 rw [decide_eq_true hf] at S2
 have Hf:=Lib.hid hf
 clear hf
 have B0:=fun (W':World) (b:Below W.heap.size W W')=>(b.cell (p:=⟨w.heap.size,0,none⟩) KH.out.lt).trans c0
 have B1:=fun (W':World) (b:Below W.heap.size W W')=>(b.cell (p:=⟨w.heap.size,1,none⟩) KH.out.lt).trans c1
 have B2:=fun (W':World) (b:Below W.heap.size W W')=>(b.cell (p:=⟨w.heap.size,2,none⟩) KH.out.lt).trans c2
 have B3:=fun (W':World) (b:Below W.heap.size W W')=>(b.cell (p:=⟨w.heap.size,3,none⟩) KH.out.lt).trans c3
 have B4:=fun (W':World) (b:Below W.heap.size W W')=>(b.cell (p:=⟨w.heap.size,4,none⟩) KH.out.lt).trans c4
 have B5:=fun (W':World) (b:Below W.heap.size W W')=>(b.cell (p:=⟨w.heap.size,5,none⟩) KH.out.lt).trans c5
 have B6:=fun (W':World) (b:Below W.heap.size W W')=>(b.cell (p:=⟨w.heap.size,6,none⟩) KH.out.lt).trans c6
 have B7:=fun (W':World) (b:Below W.heap.size W W')=>(b.cell (p:=⟨w.heap.size,7,none⟩) KH.out.lt).trans c7
 have HB:=Lib.hid (And.intro B0 (And.intro B1 (And.intro B2 (And.intro B3 (And.intro B4 (And.intro B5 (And.intro B6 B7)))))))
 clear B0 B1 B2 B3 B4 B5 B6 B7
 by_cases hl:LinksR H
 case neg =>
  have S4:=Lib.hid fun W b=>(by have:=S4.out W b Ho.out;rw [decide_eq_false hl] at this;exact this:Calls Tryz.prog 41 _ W (Says W (.bool false)))
  have Hd:=Lib.hid (show v=1 from HV.out.trans (chkH_no fun r=>hl ⟨fun x hx=>(r.ok x hx).2.2.2.2,r.tp⟩))
  clear hl
  go_enter Tryz.func21,Tryz.ntmps21
  go_upto_region 1 with (fail)
  try rw [hW]
  clear hW
  go_wp2_with (first
   | (go_at_call 38;refine S1.mono ?_;rintro e w1 ⟨rfl,b1⟩;have bb1:=b1.below;obtain ⟨e0,e1,e2,e3,e4,e5,e6,e7⟩:=(⟨HB.out.1 _ bb1,HB.out.2.1 _ bb1,HB.out.2.2.1 _ bb1,HB.out.2.2.2.1 _ bb1,HB.out.2.2.2.2.1 _ bb1,HB.out.2.2.2.2.2.1 _ bb1,HB.out.2.2.2.2.2.2.1 _ bb1,HB.out.2.2.2.2.2.2.2 _ bb1⟩:_∧_∧_∧_∧_∧_∧_∧_))
   | (go_at_call 39;refine (S2.out _ bb1).mono ?_;rintro e w2 ⟨rfl,b2⟩;have bb2:=bb1.trans (b2.mono bb1.size);obtain ⟨i0,i1,i2,i3,i4,i5,i6,i7⟩:=(⟨HB.out.1 _ bb2,HB.out.2.1 _ bb2,HB.out.2.2.1 _ bb2,HB.out.2.2.2.1 _ bb2,HB.out.2.2.2.2.1 _ bb2,HB.out.2.2.2.2.2.1 _ bb2,HB.out.2.2.2.2.2.2.1 _ bb2,HB.out.2.2.2.2.2.2.2 _ bb2⟩:_∧_∧_∧_∧_∧_∧_∧_))
   | (go_at_call 40;refine (S3.out _ bb2 Ho.out Hf.out).mono ?_;rintro e w3 ⟨q,ms,hp,hs,hq,rfl,b3⟩;have bb3:=bb2.trans (b3.mono bb2.size);obtain ⟨j0,j1,j2,j3,j4,j5,j6,j7⟩:=(⟨HB.out.1 _ bb3,HB.out.2.1 _ bb3,HB.out.2.2.1 _ bb3,HB.out.2.2.2.1 _ bb3,HB.out.2.2.2.2.1 _ bb3,HB.out.2.2.2.2.2.1 _ bb3,HB.out.2.2.2.2.2.2.1 _ bb3,HB.out.2.2.2.2.2.2.2 _ bb3⟩:_∧_∧_∧_∧_∧_∧_∧_);have Hq:=Lib.hid ((rightH_iff Ho.out Hf.out hp hs).trans (and_congr_left fun _=>hq.symm));clear hp hs hq;cases q)
   | (go_at_call 41;refine (S4.out _ bb3).mono ?_;rintro e w4 ⟨rfl,b4⟩;have bb4:=bb3.trans (b4.below.mono bb3.size)))
  all_goals
   go_ret
  ·exact ⟨by rw [Hd.out];rfl,hb.out.trans (bb3.mono hb.out.size)⟩
  ·exact ⟨by rw [Hd.out];rfl,hb.out.trans (bb4.mono hb.out.size)⟩
 have S4:=Lib.hid fun W b=>(by have:=S4.out W b Ho.out;rw [decide_eq_true hl] at this;exact this:Calls Tryz.prog 41 _ W (Says W (.bool true)))
 have Hl:=Lib.hid hl
 clear hl
 go_enter Tryz.func21,Tryz.ntmps21
 go_upto_region 1 with (fail)
 try rw [hW]
 clear hW
 go_wp2_with (first
  | (go_at_call 38;refine S1.mono ?_;rintro e w1 ⟨rfl,b1⟩;have bb1:=b1.below;obtain ⟨e0,e1,e2,e3,e4,e5,e6,e7⟩:=(⟨HB.out.1 _ bb1,HB.out.2.1 _ bb1,HB.out.2.2.1 _ bb1,HB.out.2.2.2.1 _ bb1,HB.out.2.2.2.2.1 _ bb1,HB.out.2.2.2.2.2.1 _ bb1,HB.out.2.2.2.2.2.2.1 _ bb1,HB.out.2.2.2.2.2.2.2 _ bb1⟩:_∧_∧_∧_∧_∧_∧_∧_))
  | (go_at_call 39;refine (S2.out _ bb1).mono ?_;rintro e w2 ⟨rfl,b2⟩;have bb2:=bb1.trans (b2.mono bb1.size);obtain ⟨i0,i1,i2,i3,i4,i5,i6,i7⟩:=(⟨HB.out.1 _ bb2,HB.out.2.1 _ bb2,HB.out.2.2.1 _ bb2,HB.out.2.2.2.1 _ bb2,HB.out.2.2.2.2.1 _ bb2,HB.out.2.2.2.2.2.1 _ bb2,HB.out.2.2.2.2.2.2.1 _ bb2,HB.out.2.2.2.2.2.2.2 _ bb2⟩:_∧_∧_∧_∧_∧_∧_∧_))
  | (go_at_call 40;refine (S3.out _ bb2 Ho.out Hf.out).mono ?_;rintro e w3 ⟨q,ms,hp,hs,hq,rfl,b3⟩;have bb3:=bb2.trans (b3.mono bb2.size);obtain ⟨j0,j1,j2,j3,j4,j5,j6,j7⟩:=(⟨HB.out.1 _ bb3,HB.out.2.1 _ bb3,HB.out.2.2.1 _ bb3,HB.out.2.2.2.1 _ bb3,HB.out.2.2.2.2.1 _ bb3,HB.out.2.2.2.2.2.1 _ bb3,HB.out.2.2.2.2.2.2.1 _ bb3,HB.out.2.2.2.2.2.2.2 _ bb3⟩:_∧_∧_∧_∧_∧_∧_∧_);have Hq:=Lib.hid ((rightH_iff Ho.out Hf.out hp hs).trans (and_congr_left fun _=>hq.symm));clear hp hs hq;cases q)
  | (go_at_call 41;refine (S4.out _ bb3).mono ?_;rintro e w4 ⟨rfl,b4⟩;have bb4:=bb3.trans (b4.below.mono bb3.size)))
 all_goals
  go_ret
 ·exact ⟨by rw [HV.out,chkH_no fun r=>by have:=(Hq.out.1 r).1;cases this];rfl,hb.out.trans (bb3.mono hb.out.size)⟩
 ·exact ⟨by rw [HV.out,chkH_yes (Hq.out.2 ⟨by first | rfl | trivial,Hl.out⟩)];rfl,hb.out.trans (bb4.mono hb.out.size)⟩
end Go.Proofs.YtcodpnbemdflcaaGreatDoor
namespace Go.Proofs.YtcodpnbemdflcaaGreatDoor
open Go.RowKit
def newH (r:Int):Hp:=⟨r, [],1, [0,0,0,0], [(0,r)]⟩
theorem right_newH {r:Int} (hr:3≤r∧r≤8):RightH (newH r):=by
 have hp:=sz_pos r
 refine ⟨⟨hr,fun b hb => ?_,List.pairwise_singleton _ _⟩,⟨by simp [newH],by simp [newH]⟩,List.Pairwise.nil,(fun x hx=>by cases hx),List.pairwise_singleton _ _,fun t ht => .inl ?_,by simp [blks,newH,sumL]⟩
 ·rw [List.mem_singleton.1 hb]
  exact ⟨by simp only;omega,Int.le_refl _,Int.le_refl _,by simp only [newH];omega,by simp⟩
 ·simp [newH] at ht;exact ht
def newR (r:Int):Hp:=if 3≤r∧r≤8 then newH r else zeroH
def newE (r:Int):Int:=if 3≤r∧r≤8 then 0 else 1
def NewPost (w:World) (r:Int) (e:Ending) (w':World):Prop :=
 ∃ s,e = .returned (.tuple #[hval (newR r) s, .int .i64 (newE r)])∧OwnHp w' w.heap.size s [] (newR r)∧Below w.heap.size w w'
theorem results_ct {fn:Func} {p q:Tmp} (h:fn.results = #[.cell p 28, .tmp q]) (tmps:Array Value) (w:World) (kp:Nat) (hp:tmps.getD p undef = .pointer (some ⟨kp,0,none⟩)) {a0 a1 a2 a3 a4 a5 a6 a7:Value} (K:Whole w kp 28 [a0,a1,a2,a3,a4,a5,a6,a7]) :
  (results fn tmps).run Tryz.prog w = .ok (.tuple #[.agg #[a0,a1,a2,a3,a4,a5,a6,a7],tmps.getD q undef]) w:=by
 have u1:=Tryz.underlying28
 have z1:=Tryz.sizeOf28
 have i1:=Tryz.isAgg28
 have hp':tmps[p]?.getD undef = .pointer (some ⟨kp,0,none⟩):=by simpa using hp
 have c0:=K.cell 0
 have c1:=K.cell 1
 have c2:=K.cell 2
 have c3:=K.cell 3
 have c4:=K.cell 4
 have c5:=K.cell 5
 have c6:=K.cell 6
 have c7:=K.cell 7
 simp only [List.getElem?_cons_succ,List.getElem?_cons_zero] at c0 c1 c2 c3 c4 c5 c6 c7
 simp only [results,h]
 simp [hp',asAddr,loadVar]
 go_simp
theorem newMem (w W:World) (b:Below w.heap.size (w.alloc (.cells zcs.toArray 28)) W) (a0 a1 a2 a3 a4 a5 a6 a7:Value) (K:Whole W w.heap.size 28 zcs) :
  Whole ((((((((W.setCell ⟨w.heap.size,0,none⟩ a0).setCell ⟨w.heap.size,1,none⟩ a1).setCell ⟨w.heap.size,2,none⟩ a2).setCell ⟨w.heap.size,3,none⟩ a3).setCell ⟨w.heap.size,4,none⟩ a4).setCell ⟨w.heap.size,5,none⟩ a5).setCell ⟨w.heap.size,6,none⟩ a6).setCell ⟨w.heap.size,7,none⟩ a7) w.heap.size 28 [a0,a1,a2,a3,a4,a5,a6,a7] ∧
  Below w.heap.size w ((((((((W.setCell ⟨w.heap.size,0,none⟩ a0).setCell ⟨w.heap.size,1,none⟩ a1).setCell ⟨w.heap.size,2,none⟩ a2).setCell ⟨w.heap.size,3,none⟩ a3).setCell ⟨w.heap.size,4,none⟩ a4).setCell ⟨w.heap.size,5,none⟩ a5).setCell ⟨w.heap.size,6,none⟩ a6).setCell ⟨w.heap.size,7,none⟩ a7):=by
 have g1:=grown_set8 W w.heap.size a0 a1 a2 a3 a4 a5 a6 a7
 have k1:=(((((((K.set 0 a0).set 1 a1).set 2 a2).set 3 a3).set 4 a4).set 5 a5).set 6 a6).set 7 a7
 have b0:=(Below.refl w.heap.size w).alloc (Nat.le_refl _) (.cells zcs.toArray 28)
 exact ⟨k1,below_grown (b0.trans b) g1 (b0.trans b).size (Nat.le_refl _)⟩
set_option maxHeartbeats 2000000 in
theorem new_heap (r:Int) (w:World):Calls Tryz.prog 4 #[.int .i64 r] w (NewPost w r):=by
 have K:=Whole.new w zcs.toArray 28
 have hz:(w.alloc (.cells zcs.toArray 28)).heap.size=w.heap.size+1:=by simp
 have S:=all_any r (w.alloc (.cells zcs.toArray 28))
 unfold allL allE at S
 unfold NewPost newR newE
 by_cases hr:3≤r∧r≤8
 ·rw [if_pos hr,if_pos hr] at S
  rw [if_pos hr,if_pos hr]
  simp only [zcs] at S K hz
  go_enter Tryz.func4,Tryz.ntmps4
  go_upto_region 2 with (go_at_call 15;refine S.mono ?_;rintro e w1 ⟨v,rfl,o1,b1⟩)
  have K1:=K.below b1
  obtain ⟨F,d,rfl,_,_,_,hFn,hF⟩:=o1.shape rfl
  rw [hz] at b1
  have Hf:=Lib.hid (newMem w w1 (b1.mono (by omega)) (.int .i64 r) (.slice none 0 0) (.int .i64 1) (.int .i64 0) (.int .i64 0) (.int .i64 0) (.int .i64 0) (.slice F 1 d) K1)
  have O1:=Lib.hid o1
  have HF:=Lib.hid (And.intro hFn hF)
  have fr:=K1.free
  have c0:=K1.cell 0
  have c1:=K1.cell 1
  have c2:=K1.cell 2
  have c3:=K1.cell 3
  have c4:=K1.cell 4
  have c5:=K1.cell 5
  have c6:=K1.cell 6
  have c7:=K1.cell 7
  simp only [List.getElem?_cons_succ,List.getElem?_cons_zero] at c0 c1 c2 c3 c4 c5 c6 c7
  clear S K b1 o1 hFn hF K1
  go_wp2_with fail
  refine bodyPost_ret (results_ct rfl _ _ w.heap.size rfl Hf.out.1) rfl ?_
  refine ⟨⟨none,0,0,F,1,d⟩,rfl,⟨OwnOs.nil,rfl,?_,rfl,by simp [newH]⟩,Hf.out.2⟩
  have hg:=grown_set8 w1 w.heap.size (.int .i64 r) (.slice none 0 0) (.int .i64 1) (.int .i64 0) (.int .i64 0) (.int .i64 0) (.int .i64 0) (.slice F 1 d)
  refine (O1.out.grown hg fun k hk e => ?_).mono (by omega)
  have h1:=(O1.out.lt k hk).1
  injection e with e
  omega
 ·rw [if_neg hr,if_neg hr] at S
  rw [if_neg hr,if_neg hr]
  simp only [zcs] at S K hz
  go_enter Tryz.func4,Tryz.ntmps4
  go_upto_region 2 with (go_at_call 15;refine S.mono ?_;rintro e w1 ⟨v,rfl,o1,b1⟩)
  have K1:=K.below b1
  rw [hz] at b1
  have Hf:=Lib.hid (newMem w w1 (b1.mono (by omega)) (.int .i64 0) (.slice none 0 0) (.int .i64 0) (.int .i64 0) (.int .i64 0) (.int .i64 0) (.int .i64 0) (.slice none 0 0) K1)
  have fr:=K1.free
  have c0:=K1.cell 0
  have c1:=K1.cell 1
  have c2:=K1.cell 2
  have c3:=K1.cell 3
  have c4:=K1.cell 4
  have c5:=K1.cell 5
  have c6:=K1.cell 6
  have c7:=K1.cell 7
  simp only [List.getElem?_cons_succ,List.getElem?_cons_zero] at c0 c1 c2 c3 c4 c5 c6 c7
  clear S K b1 o1 K1
  go_wp2_with fail
  refine bodyPost_ret (results_ct rfl _ _ w.heap.size rfl Hf.out.1) rfl ?_
  exact ⟨⟨none,0,0,none,0,0⟩,rfl,⟨OwnOs.nil,rfl,OwnB.nil,rfl,by simp [zeroH]⟩,Hf.out.2⟩
end Go.Proofs.YtcodpnbemdflcaaGreatDoor
namespace Go.Proofs.YtcodpnbemdflcaaGreatDoor
open Go.RowKit
theorem new3 (w:World):Calls Tryz.prog 4 #[.int .i64 3] w fun e w' =>
  ∃ A n c F d,e = .returned (.tuple #[.agg #[.int .i64 3, .slice A n c, .int .i64 1, .int .i64 0, .int .i64 0, .int .i64 0, .int .i64 0, .slice F 1 d], .int .i64 0])∧OwnHp w' w.heap.size ⟨A,n,c,F,1,d⟩ [] (newH 3)∧Below w.heap.size w w':=by
 refine (new_heap 3 w).mono fun e w' h => ?_
 unfold NewPost at h
 rw [show newR 3=newH 3 from if_pos (by omega),show newE 3=0 from if_pos (by omega)] at h
 obtain ⟨⟨A,n,c,F,m,d⟩,rfl,o1,b1⟩:=h
 obtain ⟨F0,d0,hf0,hfr⟩:=o1.free.rd
 have hm:m=1:=by injection hf0
 subst hm
 exact ⟨A,n,c,F,d,rfl,o1,b1⟩
end Go.Proofs.YtcodpnbemdflcaaGreatDoor

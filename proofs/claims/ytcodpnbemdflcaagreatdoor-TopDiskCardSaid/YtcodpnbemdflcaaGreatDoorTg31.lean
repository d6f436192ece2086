/-
  A reader reads a heap: the walk.
-/
import Derived.Test.YtcodpnbemdflcaaGreatDoorTg30
import Derived.Deep.DeepCutAuto
import Derived.Test.YtcodpnbemdflcaaGreatDoorTg29
namespace Go.Proofs.YtcodpnbemdflcaaGreatDoor
open Go.RowKit
def HeapRead (w:World) (g:Nat) (l:List UInt8) (e:Ending) (w':World):Prop :=
 w.grownBy w' (some g)∧((∃ H s os r R,e = .returned (hval H s)∧OwnHp w' w.heap.size s os H∧Rdr w' g r∧praw gp l=some (R,r)∧RightH H∧H = { R with fr:=H.fr }) ∨
  (e = .panicked gone∧(praw gp l=none ∨ ∃ R r,praw gp l=some (R,r) ∧ ∀ F, ¬ RightH { R with fr:=F })))
set_option maxHeartbeats 4000000 in
theorem rdHeap_any (g:Nat) (l:List UInt8) (w:World) (hr:Rdr w g l) (hT:Tab w) (hTg:0≠g) :
  Calls Tryz.prog 156 #[rdv g] w (HeapRead w g l):=by
 have hgl:=hr.lt
 have hTl:=hT.lt
 have Hmf:Hid (∀ (fn:Fn) (first cap:Array Value) (w:World),(Instr.makeFunc fn first cap).run Tryz.prog w = .ok (.func fn first cap) w):=Lib.hid fun _ _ _ _=>rfl
 unfold rdv
 go_enter Tryz.func156,Tryz.ntmps156
 go_wp2_with fail
 have KB:=(Whole.new w #[.pointer (some ⟨g,0,none⟩)] 236).alloc (.cells zcs.toArray 28)
 have KO:=Whole.new (w.alloc (.cells #[.pointer (some ⟨g,0,none⟩)] 236)) zcs.toArray 28
 rw [show (w.alloc (.cells #[.pointer (some ⟨g,0,none⟩)] 236)).heap.size=w.heap.size+1 by simp] at KO
 have B0:=((Below.refl w.heap.size w).alloc (Nat.le_refl _) (.cells #[.pointer (some ⟨g,0,none⟩)] 236)).alloc (by simp) (.cells zcs.toArray 28)
 have R0:=hr.keep B0 hgl
 have T0:=hT.below B0
 unfold zcs at KB B0 R0 T0
 change Whole ((w.alloc (.cells #[.pointer (some ⟨g,0,none⟩)] 236)).alloc (.cells #[.int .i64 0, .slice none 0 0, .int .i64 0, .int .i64 0, .int .i64 0, .int .i64 0, .int .i64 0, .slice none 0 0] 28)) _ _ _ at KO
 generalize (w.alloc (.cells #[.pointer (some ⟨g,0,none⟩)] 236)).alloc (.cells #[.int .i64 0, .slice none 0 0, .int .i64 0, .int .i64 0, .int .i64 0, .int .i64 0, .int .i64 0, .slice none 0 0] 28)=W at KB KO B0 R0 T0 ⊢
 refine (rdNumber_any g l W R0).mono ?_
 rintro e w1 ⟨hg1,hm⟩
 have G1:=Lib.hid (grown_trans (grown_below B0 (some g)) hg1)
 have KB1:=KB.grown hg1 (by omega)
 have KO1:=KO.grown hg1 (by omega)
 have T1:=T0.beside hg1 hTg
 clear KB KO B0 R0 T0 hg1
 cases hq1:pnum l with
 | none =>
  rw [hq1] at hm
  subst hm
  have Hst:=Lib.hid (show praw gp l=none from by unfold praw;rw [hq1];rfl)
  clear hq1 KB1 KO1 T1
  go_wp2
  exact ⟨rfl,G1.out, .inr ⟨rfl, .inl Hst.out⟩⟩
 | some q =>
  obtain ⟨od,l1⟩:=q
  rw [hq1] at hm
  obtain ⟨v,rfl,rfl,hr1⟩:=hm
  have H1:=Lib.hid hq1
  clear hq1
  dsimp only
  go_wp2_with fail
  refine (new_heap od w1).mono ?_
  rintro e w2 ⟨s,rfl,O2,b2⟩
  have KB2:=KB1.below b2
  have KO2:=KO1.below b2
  have R2:=hr1.keep b2 hr1.lt
  have G2:=Lib.hid (grown_trans G1.out (grown_below b2 (some g)))
  have T2:=T1.below b2
  clear KB1 KO1 G1 T1
  by_cases hod:3≤od∧od≤8
  ·have e1:newR od=newH od:=if_pos hod
   have e2:newE od=0:=if_pos hod
   rw [e1,e2]
   obtain ⟨A,n,c,F,m,d⟩:=s
   clear e1 e2 O2 b2 hr1
   dsimp only
   go_wp2_with fail
   refine (mustHeap_yes (newH od) ⟨A,n,c,F,m,d⟩ w2).mono ?_
   rintro e w3 ⟨rfl,b3⟩
   have M3:HpMemR w g l1 w3.heap.size (w3.alloc (.cells #[.int .i64 od, .slice A n c, .int .i64 1, .int .i64 0, .int .i64 0, .int .i64 0, .int .i64 0, .slice F m d] 28)) (tcs od 1 (.slice A n c) (.slice F m d) [] 4):=by
    have M2:HpMemR w g l1 w3.heap.size (w3.alloc (.cells #[.int .i64 od, .slice A n c, .int .i64 1, .int .i64 0, .int .i64 0, .int .i64 0, .int .i64 0, .slice F m d] 28)) [.int .i64 od, .slice A n c, .int .i64 1, .int .i64 0, .int .i64 0, .int .i64 0, .int .i64 0, .slice F m d] :=
     ⟨(KB2.below b3).alloc _,(KO2.below b3).alloc _,Whole.new w3 _ _,(R2.keep b3 R2.lt).alloc _,grown_trans (grown_trans G2.out (grown_below b3 _)) (grown_below ((Below.refl _ _).alloc (Nat.le_refl _) _) _),by have:=KO2.lt;have:=b3.size;omega,(T2.below b3).below ((Below.refl _ _).alloc (Nat.le_refl _) _)⟩
    exact M2
   have b0:=(KB2.below b3).cell 0
   have hsz:w.heap.size < w3.heap.size:=by have:=KO2.lt;have:=b3.size;omega
   clear KB2 KO2 R2 G2 T2 b3
   simp only [hval,hcs,newH,tget,List.getD_cons_zero,List.getD_cons_succ]
   go_wp2_with fail
   generalize w3.alloc (.cells #[.int .i64 od, .slice A n c, .int .i64 1, .int .i64 0, .int .i64 0, .int .i64 0, .int .i64 0, .slice F m d] 28)=W3 at M3 ⊢
   clear b0
   refine (rdNumber_any g l1 W3 M3.rd).mono ?_
   rintro e w4 ⟨hg4,hm⟩
   cases hq2:pnum l1 with
   | none =>
    rw [hq2] at hm
    subst hm
    have Hst:=Lib.hid (show praw gp l=none from by unfold praw;rw [H1.out,Option.bind_some];simp only;rw [hq2];rfl)
    have G4:=Lib.hid (grown_trans M3.gr hg4)
    clear hq2 M3 hg4
    go_wp2
    exact ⟨rfl,G4.out, .inr ⟨rfl, .inl Hst.out⟩⟩
   | some q =>
    obtain ⟨nx,l2⟩:=q
    rw [hq2] at hm
    obtain ⟨v,rfl,rfl,hr4⟩:=hm
    have H2:=Lib.hid hq2
    have M4:=M3.call hgl hTg hg4 hr4
    have M5:=Lib.hid (show HpMemR w g l2 w3.heap.size (w4.setCell ⟨w3.heap.size,2,none⟩ (.int .i64 nx)) (tcs od nx (.slice A n c) (.slice F m d) [] 4) from M4.set hgl hTl (tcs_nob _ _ _ _ _ _ (fun _ e=>by cases e) (fun _ e=>by cases e)) 2 (.int .i64 nx))
    have c2:w4.cell? ⟨w3.heap.size,2,none⟩=some (.int .i64 1):=M4.hb.cell 2
    have z2:=M4.hb.free 2
    clear hq2 M3 hg4 hr4 M4
    dsimp only
    go_wp2
    generalize w4.setCell ⟨w3.heap.size,2,none⟩ (.int .i64 nx)=W4 at M5 ⊢
    clear c2 z2
    go_loopw [14] (TopsRel w g w3.heap.size l2 od nx (.slice A n c) (.slice F m d)) (fun i _=>4 - (intOf i).toNat)
    case atStart=>exact ⟨0, [],l2,by omega,rfl,rfl,M5.out⟩
    case round =>
     clear M5
     obtain ⟨k,vs,r,hk,rfl,hpr,hM⟩:=hrel
     have Hpr:=Lib.hid hpr
     have HM:=Lib.hid hM
     have hln:=prep_len hpr
     clear hpr
     by_cases hlt:k < 4
     ·have hki:(k:Int) < 4:=by omega
      have b0:=hM.rb.cell 0
      clear hM
      go_wp2_with fail
      clear b0
      refine (rdNumber_any g r wr HM.out.rd).mono ?_
      rintro e w5 ⟨hg5,hm⟩
      cases hq3:pnum r with
      | none =>
       rw [hq3] at hm
       subst hm
       have Hst:=Lib.hid (show praw gp l=none from by unfold praw;rw [H1.out,Option.bind_some];simp only;rw [H2.out,Option.bind_some];simp only;rw [prep_stop Hpr.out hq3 hlt];rfl)
       have G5:=Lib.hid (grown_trans HM.out.gr hg5)
       clear hq3 hg5
       go_wp2
       exact ⟨rfl,G5.out, .inr ⟨rfl, .inl Hst.out⟩⟩
      | some q =>
       obtain ⟨x,r'⟩:=q
       rw [hq3] at hm
       obtain ⟨v,rfl,rfl,hr5⟩:=hm
       have Hp:=Lib.hid (prep_step Hpr.out hq3)
       have M5:=HM.out.call hgl hTg hg5 hr5
       obtain ⟨j,hj⟩ : ∃ j,4 - k=j+1:=⟨3 - k,by omega⟩
       have hj2:4 - (k+1)=j:=by omega
       rw [hj] at M5
       have c3:w5.cell? ⟨w3.heap.size,3+k,none⟩=some (.int .i64 0):=by
        rw [M5.hb.cell, ← hln];exact tcs_get _ _ _ _ _ _
       have z3:=M5.hb.free (3+k)
       have M6:=M5.set hgl hTl (tcs_nob _ _ _ _ _ _ (fun _ e=>by cases e) (fun _ e=>by cases e)) (3+k) (.int .i64 x)
       rw [← hln,tcs_set,hln] at M6
       have HM6:=Lib.hid M6
       clear hq3 hg5 hr5 M5 M6 hln
       dsimp only
       go_wp2
       go_roundw
       case rel=>exact ⟨k+1,vs ++ [x],r',by omega,by go_num,Hp.out,by rw [hj2];exact HM6.out⟩
       case measure=>simp [intOf];omega
     ·obtain rfl:k=4:=by omega
      obtain ⟨t0,t1,t2,t3,rfl⟩:=list4 hln
      have M7:HpMemR w g r w3.heap.size wr [.int .i64 od, .slice A n c, .int .i64 nx, .int .i64 t0, .int .i64 t1, .int .i64 t2, .int .i64 t3, .slice F m d]:=hM
      have M0:=Lib.hid (M7.rise (Below.refl wr.heap.size wr).drew)
      have hne : ¬ w.heap.size=w3.heap.size:=by omega
      have hmf:=Hmf.out
      have hod1:=hod.1
      have hod2:=hod.2
      have hle8:=sz_le256 (o:=od) (by omega) hod2
      obtain ⟨mo,hmo⟩:=Int.eq_ofNat_of_zero_le (Int.le_of_lt (sz_pos od))
      have hsh:IntKind.i64.wrap (2 ^ od.toNat)=(mo:Int):=by
       change IntKind.i64.wrap (sz od)=_
       rw [hmo,IntKind.wrap_i64];omega
      have Hmo:=Lib.hid hmo
      clear hM HM M7 hln
      go_wp2_with fail
      go_cut [30] (fun _ wc=>R8 w g l w3.heap.size od nx t0 t1 t2 t3 (.slice F m d) wc)
      case first =>
       cases hq4:pnum r with
       | none =>
        have HN:=Lib.hid (fun W R=>rdNumber_any g r W R)
        rw [hq4] at HN
        have Hst:=Lib.hid (show praw gp l=none from by unfold praw;rw [H1.out,Option.bind_some];simp only;rw [H2.out,Option.bind_some];simp only;rw [Hpr.out,Option.bind_some];simp only;rw [hq4];rfl)
        clear hmo hq4
        -- region 8 A
        refine wp_region_any (by kernel_rfl) ?_
        change wpAny _ _ _ _ _ _ _ (World.drew _)
        refine take_put (i:=2) (d:=25) (v := ?_) rfl rfl (by kernel_rfl) (by kernel_rfl) (by kernel_rfl) (fun _ _ _ h=>h) (Or.inl ⟨by rfl,?_⟩) ?_
        rotate_left
        ·intro w;go_simp;with_reducible rfl
        conv =>
         arg 7
         simp only [List.setIfInBounds_toArray,List.set_cons_succ,List.set_cons_zero]
        refine wpAny_ready (rs := [0,3,5]) (by kernel_rfl) (by simp) ?_
        refine AllReady.cons rfl (fun K hK => ?_) (AllReady.cons rfl (fun K hK => ?_) (AllReady.cons rfl (fun K hK => ?_) (AllReady.nil)))
        ·skip
         have b1:=M0.out.rb.cell 0
         go_simp
         refine hK _ _ ?_
         clear hK K
         clear b1
         refine wpAny_ready (rs := [1,3,5]) (by kernel_rfl) (by simp) ?_
         refine AllReady.cons rfl (fun K hK => ?_) (AllReady.cons rfl (fun K hK => ?_) (AllReady.cons rfl (fun K hK => ?_) (AllReady.nil)))
         ·skip
          go_simp
          go_wp2_with (go_at_call 207;refine (HN.out _ M0.out.rd).mono ?_;rintro e wq2 ⟨hg2,rfl⟩)
          exact ⟨rfl,grown_trans M0.out.gr hg2, .inr ⟨rfl, .inl Hst.out⟩⟩
         ·skip
          have o3:=M0.out.hb.cell 0
          go_simp
          refine hK _ _ ?_
          clear hK K
          clear o3
          refine take_put (i:=4) (d:=27) (v := ?_) rfl rfl (by kernel_rfl) (by kernel_rfl) (by kernel_rfl) (fun _ _ _ h=>h) (Or.inl ⟨by rfl,?_⟩) ?_
          rotate_left
          ·intro w;go_simp;with_reducible rfl
          conv =>
           arg 7
           simp only [List.setIfInBounds_toArray,List.set_cons_succ,List.set_cons_zero]
          refine wpAny_ready (rs := [1,5]) (by kernel_rfl) (by simp) ?_
          refine AllReady.cons rfl (fun K hK => ?_) (AllReady.cons rfl (fun K hK => ?_) (AllReady.nil))
          ·skip
           go_simp
           go_wp2_with (go_at_call 207;refine (HN.out _ M0.out.rd).mono ?_;rintro e wq4 ⟨hg4,rfl⟩)
           exact ⟨rfl,grown_trans M0.out.gr hg4, .inr ⟨rfl, .inl Hst.out⟩⟩
          ·skip
           have b5:=M0.out.rb.cell 0
           go_simp
           refine hK _ _ ?_
           clear hK K
           clear b5
           refine take_put (i:=6) (d:=29) (v := ?_) rfl rfl (by kernel_rfl) (by kernel_rfl) (by kernel_rfl) (fun _ _ _ h=>h) (Or.inl ⟨by rfl,?_⟩) ?_
           rotate_left
           ·intro w;go_simp;with_reducible rfl
           conv =>
            arg 7
            simp only [List.setIfInBounds_toArray,List.set_cons_succ,List.set_cons_zero]
           refine wpAny_ready (rs := [1]) (by kernel_rfl) (by simp) ?_
           refine AllReady.cons rfl (fun K hK => ?_) (AllReady.nil)
           go_simp
           go_wp2_with (go_at_call 207;refine (HN.out _ M0.out.rd).mono ?_;rintro e wq6 ⟨hg6,rfl⟩)
           exact ⟨rfl,grown_trans M0.out.gr hg6, .inr ⟨rfl, .inl Hst.out⟩⟩
         ·skip
          have b7:=M0.out.rb.cell 0
          go_simp
          refine hK _ _ ?_
          clear hK K
          clear b7
          refine take_put (i:=6) (d:=29) (v := ?_) rfl rfl (by kernel_rfl) (by kernel_rfl) (by kernel_rfl) (fun _ _ _ h=>h) (Or.inl ⟨by rfl,?_⟩) ?_
          rotate_left
          ·intro w;go_simp;with_reducible rfl
          conv =>
           arg 7
           simp only [List.setIfInBounds_toArray,List.set_cons_succ,List.set_cons_zero]
          refine wpAny_ready (rs := [1,3]) (by kernel_rfl) (by simp) ?_
          refine AllReady.cons rfl (fun K hK => ?_) (AllReady.cons rfl (fun K hK => ?_) (AllReady.nil))
          ·skip
           go_simp
           go_wp2_with (go_at_call 207;refine (HN.out _ M0.out.rd).mono ?_;rintro e wq8 ⟨hg8,rfl⟩)
           exact ⟨rfl,grown_trans M0.out.gr hg8, .inr ⟨rfl, .inl Hst.out⟩⟩
          ·skip
           have o9:=M0.out.hb.cell 0
           go_simp
           refine hK _ _ ?_
           clear hK K
           clear o9
           refine take_put (i:=4) (d:=27) (v := ?_) rfl rfl (by kernel_rfl) (by kernel_rfl) (by kernel_rfl) (fun _ _ _ h=>h) (Or.inl ⟨by rfl,?_⟩) ?_
           rotate_left
           ·intro w;go_simp;with_reducible rfl
           conv =>
            arg 7
            simp only [List.setIfInBounds_toArray,List.set_cons_succ,List.set_cons_zero]
           refine wpAny_ready (rs := [1]) (by kernel_rfl) (by simp) ?_
           refine AllReady.cons rfl (fun K hK => ?_) (AllReady.nil)
           go_simp
           go_wp2_with (go_at_call 207;refine (HN.out _ M0.out.rd).mono ?_;rintro e wq10 ⟨hg10,rfl⟩)
           exact ⟨rfl,grown_trans M0.out.gr hg10, .inr ⟨rfl, .inl Hst.out⟩⟩
        ·skip
         have o11:=M0.out.hb.cell 0
         go_simp
         refine hK _ _ ?_
         clear hK K
         clear o11
         refine take_put (i:=4) (d:=27) (v := ?_) rfl rfl (by kernel_rfl) (by kernel_rfl) (by kernel_rfl) (fun _ _ _ h=>h) (Or.inl ⟨by rfl,?_⟩) ?_
         rotate_left
         ·intro w;go_simp;with_reducible rfl
         conv =>
          arg 7
          simp only [List.setIfInBounds_toArray,List.set_cons_succ,List.set_cons_zero]
         refine wpAny_ready (rs := [0,5]) (by kernel_rfl) (by simp) ?_
         refine AllReady.cons rfl (fun K hK => ?_) (AllReady.cons rfl (fun K hK => ?_) (AllReady.nil))
         ·skip
          have b12:=M0.out.rb.cell 0
          go_simp
          refine hK _ _ ?_
          clear hK K
          clear b12
          refine wpAny_ready (rs := [1,5]) (by kernel_rfl) (by simp) ?_
          refine AllReady.cons rfl (fun K hK => ?_) (AllReady.cons rfl (fun K hK => ?_) (AllReady.nil))
          ·skip
           go_simp
           go_wp2_with (go_at_call 207;refine (HN.out _ M0.out.rd).mono ?_;rintro e wq13 ⟨hg13,rfl⟩)
           exact ⟨rfl,grown_trans M0.out.gr hg13, .inr ⟨rfl, .inl Hst.out⟩⟩
          ·skip
           have b14:=M0.out.rb.cell 0
           go_simp
           refine hK _ _ ?_
           clear hK K
           clear b14
           refine take_put (i:=6) (d:=29) (v := ?_) rfl rfl (by kernel_rfl) (by kernel_rfl) (by kernel_rfl) (fun _ _ _ h=>h) (Or.inl ⟨by rfl,?_⟩) ?_
           rotate_left
           ·intro w;go_simp;with_reducible rfl
           conv =>
            arg 7
            simp only [List.setIfInBounds_toArray,List.set_cons_succ,List.set_cons_zero]
           refine wpAny_ready (rs := [1]) (by kernel_rfl) (by simp) ?_
           refine AllReady.cons rfl (fun K hK => ?_) (AllReady.nil)
           go_simp
           go_wp2_with (go_at_call 207;refine (HN.out _ M0.out.rd).mono ?_;rintro e wq15 ⟨hg15,rfl⟩)
           exact ⟨rfl,grown_trans M0.out.gr hg15, .inr ⟨rfl, .inl Hst.out⟩⟩
         ·skip
          have b16:=M0.out.rb.cell 0
          go_simp
          refine hK _ _ ?_
          clear hK K
          clear b16
          refine take_put (i:=6) (d:=29) (v := ?_) rfl rfl (by kernel_rfl) (by kernel_rfl) (by kernel_rfl) (fun _ _ _ h=>h) (Or.inl ⟨by rfl,?_⟩) ?_
          rotate_left
          ·intro w;go_simp;with_reducible rfl
          conv =>
           arg 7
           simp only [List.setIfInBounds_toArray,List.set_cons_succ,List.set_cons_zero]
          refine wpAny_ready (rs := [0]) (by kernel_rfl) (by simp) ?_
          refine AllReady.cons rfl (fun K hK => ?_) (AllReady.nil)
          have b17:=M0.out.rb.cell 0
          go_simp
          refine hK _ _ ?_
          clear hK K
          clear b17
          refine wpAny_ready (rs := [1]) (by kernel_rfl) (by simp) ?_
          refine AllReady.cons rfl (fun K hK => ?_) (AllReady.nil)
          go_simp
          go_wp2_with (go_at_call 207;refine (HN.out _ M0.out.rd).mono ?_;rintro e wq18 ⟨hg18,rfl⟩)
          exact ⟨rfl,grown_trans M0.out.gr hg18, .inr ⟨rfl, .inl Hst.out⟩⟩
        ·skip
         have b19:=M0.out.rb.cell 0
         go_simp
         refine hK _ _ ?_
         clear hK K
         clear b19
         refine take_put (i:=6) (d:=29) (v := ?_) rfl rfl (by kernel_rfl) (by kernel_rfl) (by kernel_rfl) (fun _ _ _ h=>h) (Or.inl ⟨by rfl,?_⟩) ?_
         rotate_left
         ·intro w;go_simp;with_reducible rfl
         conv =>
          arg 7
          simp only [List.setIfInBounds_toArray,List.set_cons_succ,List.set_cons_zero]
         refine wpAny_ready (rs := [0,3]) (by kernel_rfl) (by simp) ?_
         refine AllReady.cons rfl (fun K hK => ?_) (AllReady.cons rfl (fun K hK => ?_) (AllReady.nil))
         ·skip
          have b20:=M0.out.rb.cell 0
          go_simp
          refine hK _ _ ?_
          clear hK K
          clear b20
          refine wpAny_ready (rs := [1,3]) (by kernel_rfl) (by simp) ?_
          refine AllReady.cons rfl (fun K hK => ?_) (AllReady.cons rfl (fun K hK => ?_) (AllReady.nil))
          ·skip
           go_simp
           go_wp2_with (go_at_call 207;refine (HN.out _ M0.out.rd).mono ?_;rintro e wq21 ⟨hg21,rfl⟩)
           exact ⟨rfl,grown_trans M0.out.gr hg21, .inr ⟨rfl, .inl Hst.out⟩⟩
          ·skip
           have o22:=M0.out.hb.cell 0
           go_simp
           refine hK _ _ ?_
           clear hK K
           clear o22
           refine take_put (i:=4) (d:=27) (v := ?_) rfl rfl (by kernel_rfl) (by kernel_rfl) (by kernel_rfl) (fun _ _ _ h=>h) (Or.inl ⟨by rfl,?_⟩) ?_
           rotate_left
           ·intro w;go_simp;with_reducible rfl
           conv =>
            arg 7
            simp only [List.setIfInBounds_toArray,List.set_cons_succ,List.set_cons_zero]
           refine wpAny_ready (rs := [1]) (by kernel_rfl) (by simp) ?_
           refine AllReady.cons rfl (fun K hK => ?_) (AllReady.nil)
           go_simp
           go_wp2_with (go_at_call 207;refine (HN.out _ M0.out.rd).mono ?_;rintro e wq23 ⟨hg23,rfl⟩)
           exact ⟨rfl,grown_trans M0.out.gr hg23, .inr ⟨rfl, .inl Hst.out⟩⟩
         ·skip
          have o24:=M0.out.hb.cell 0
          go_simp
          refine hK _ _ ?_
          clear hK K
          clear o24
          refine take_put (i:=4) (d:=27) (v := ?_) rfl rfl (by kernel_rfl) (by kernel_rfl) (by kernel_rfl) (fun _ _ _ h=>h) (Or.inl ⟨by rfl,?_⟩) ?_
          rotate_left
          ·intro w;go_simp;with_reducible rfl
          conv =>
           arg 7
           simp only [List.setIfInBounds_toArray,List.set_cons_succ,List.set_cons_zero]
          refine wpAny_ready (rs := [0]) (by kernel_rfl) (by simp) ?_
          refine AllReady.cons rfl (fun K hK => ?_) (AllReady.nil)
          have b25:=M0.out.rb.cell 0
          go_simp
          refine hK _ _ ?_
          clear hK K
          clear b25
          refine wpAny_ready (rs := [1]) (by kernel_rfl) (by simp) ?_
          refine AllReady.cons rfl (fun K hK => ?_) (AllReady.nil)
          go_simp
          go_wp2_with (go_at_call 207;refine (HN.out _ M0.out.rd).mono ?_;rintro e wq26 ⟨hg26,rfl⟩)
          exact ⟨rfl,grown_trans M0.out.gr hg26, .inr ⟨rfl, .inl Hst.out⟩⟩
        -- end 8 A
       | some q =>
        obtain ⟨cnt,l4⟩:=q
        have hc0:=(pnum_codec.sound _ _ _ hq4).1
        obtain ⟨cn,rfl⟩:=Int.eq_ofNat_of_zero_le hc0.1
        have HN:=Lib.hid (fun W R=>rdNumber_any g r W R)
        rw [hq4] at HN
        have HLo:=Lib.hid (fun W R=>listObj_any cn mo (by omega) g l4 W R)
        have hpw:praw gp l=if gp od cn then (prep pobj cn l4).bind fun s=>some (⟨od,s.1,nx, [t0,t1,t2,t3], []⟩,s.2) else none:=by
         unfold praw;rw [H1.out,Option.bind_some];simp only;rw [H2.out,Option.bind_some];simp only;rw [Hpr.out,Option.bind_some];simp only;rw [hq4,Option.bind_some];rfl
        have hgp:gp od cn = !decide (mo < cn):=by
         unfold gp
         rw [decide_eq_true hod,Bool.true_and,hmo]
         by_cases q:mo < cn
         ·rw [decide_eq_true q,decide_eq_false (by omega)];rfl
         ·rw [decide_eq_false q,decide_eq_true (by omega)];rfl
        rw [hgp] at hpw
        cases hq5:(if mo < cn then none else prep pobj cn l4) with
        | none =>
         rw [hq5] at HLo
         have Hst:=Lib.hid (show praw gp l=none from by
          rw [hpw]
          by_cases q:mo < cn
          ·rw [decide_eq_true q];rfl
          ·rw [if_neg q] at hq5
           rw [decide_eq_false q,hq5];rfl)
         clear hmo hq4 hq5 hpw hgp hc0
         -- region 8 B
         refine wp_region_any (by kernel_rfl) ?_
         change wpAny _ _ _ _ _ _ _ (World.drew _)
         refine take_put (i:=2) (d:=25) (v := ?_) rfl rfl (by kernel_rfl) (by kernel_rfl) (by kernel_rfl) (fun _ _ _ h=>h) (Or.inl ⟨by rfl,?_⟩) ?_
         rotate_left
         ·intro w;go_simp;with_reducible rfl
         conv =>
          arg 7
          simp only [List.setIfInBounds_toArray,List.set_cons_succ,List.set_cons_zero]
         refine wpAny_ready (rs := [0,3,5]) (by kernel_rfl) (by simp) ?_
         refine AllReady.cons rfl (fun K hK => ?_) (AllReady.cons rfl (fun K hK => ?_) (AllReady.cons rfl (fun K hK => ?_) (AllReady.nil)))
         ·skip
          have b1:=M0.out.rb.cell 0
          go_simp
          refine hK _ _ ?_
          clear hK K
          clear b1
          refine wpAny_ready (rs := [1,3,5]) (by kernel_rfl) (by simp) ?_
          refine AllReady.cons rfl (fun K hK => ?_) (AllReady.cons rfl (fun K hK => ?_) (AllReady.cons rfl (fun K hK => ?_) (AllReady.nil)))
          ·skip
           go_simp
           go_wp2_with (go_at_call 207;refine (HN.out _ M0.out.rd).mono ?_;rintro e wq2 ⟨hg2,v2,rfl,rfl,hr2⟩)
           have M2:=Lib.hid (M0.out.call hgl hTg hg2 hr2)
           clear hg2 hr2
           refine wpAny_ready (rs := [3,5]) (by kernel_rfl) (by simp) ?_
           refine AllReady.cons rfl (fun K hK => ?_) (AllReady.cons rfl (fun K hK => ?_) (AllReady.nil))
           ·skip
            have o3:=M2.out.hb.cell 0
            go_simp
            refine hK _ _ ?_
            clear hK K
            clear o3
            refine take_put (i:=4) (d:=27) (v := ?_) rfl rfl (by kernel_rfl) (by kernel_rfl) (by kernel_rfl) (fun _ _ _ h=>h) (Or.inl ⟨by rfl,?_⟩) ?_
            rotate_left
            ·intro w;go_simp;with_reducible rfl
            conv =>
             arg 7
             simp only [List.setIfInBounds_toArray,List.set_cons_succ,List.set_cons_zero]
            refine wpAny_ready (rs := [5]) (by kernel_rfl) (by simp) ?_
            refine AllReady.cons rfl (fun K hK => ?_) (AllReady.nil)
            have b4:=M2.out.rb.cell 0
            go_simp
            refine hK _ _ ?_
            clear hK K
            clear b4
            refine take_put (i:=6) (d:=29) (v := ?_) rfl rfl (by kernel_rfl) (by kernel_rfl) (by kernel_rfl) (fun _ _ _ h=>h) (Or.inl ⟨by rfl,?_⟩) ?_
            rotate_left
            ·intro w;go_simp;with_reducible rfl
            conv =>
             arg 7
             simp only [List.setIfInBounds_toArray,List.set_cons_succ,List.set_cons_zero]
            refine wpAny_ready (rs := [7]) (by kernel_rfl) (by simp) ?_
            refine AllReady.cons rfl (fun K hK => ?_) (AllReady.nil)
            go_simp
            go_wp2_with (go_at_call 208;refine (HLo.out _ M2.out.rd).mono ?_;rintro e wq5 ⟨hg5,rfl⟩)
            exact ⟨rfl,grown_trans M2.out.gr hg5, .inr ⟨rfl, .inl Hst.out⟩⟩
           ·skip
            have b6:=M2.out.rb.cell 0
            go_simp
            refine hK _ _ ?_
            clear hK K
            clear b6
            refine take_put (i:=6) (d:=29) (v := ?_) rfl rfl (by kernel_rfl) (by kernel_rfl) (by kernel_rfl) (fun _ _ _ h=>h) (Or.inl ⟨by rfl,?_⟩) ?_
            rotate_left
            ·intro w;go_simp;with_reducible rfl
            conv =>
             arg 7
             simp only [List.setIfInBounds_toArray,List.set_cons_succ,List.set_cons_zero]
            refine wpAny_ready (rs := [3]) (by kernel_rfl) (by simp) ?_
            refine AllReady.cons rfl (fun K hK => ?_) (AllReady.nil)
            have o7:=M2.out.hb.cell 0
            go_simp
            refine hK _ _ ?_
            clear hK K
            clear o7
            refine take_put (i:=4) (d:=27) (v := ?_) rfl rfl (by kernel_rfl) (by kernel_rfl) (by kernel_rfl) (fun _ _ _ h=>h) (Or.inl ⟨by rfl,?_⟩) ?_
            rotate_left
            ·intro w;go_simp;with_reducible rfl
            conv =>
             arg 7
             simp only [List.setIfInBounds_toArray,List.set_cons_succ,List.set_cons_zero]
            refine wpAny_ready (rs := [7]) (by kernel_rfl) (by simp) ?_
            refine AllReady.cons rfl (fun K hK => ?_) (AllReady.nil)
            go_simp
            go_wp2_with (go_at_call 208;refine (HLo.out _ M2.out.rd).mono ?_;rintro e wq8 ⟨hg8,rfl⟩)
            exact ⟨rfl,grown_trans M2.out.gr hg8, .inr ⟨rfl, .inl Hst.out⟩⟩
          ·skip
           have o9:=M0.out.hb.cell 0
           go_simp
           refine hK _ _ ?_
           clear hK K
           clear o9
           refine take_put (i:=4) (d:=27) (v := ?_) rfl rfl (by kernel_rfl) (by kernel_rfl) (by kernel_rfl) (fun _ _ _ h=>h) (Or.inl ⟨by rfl,?_⟩) ?_
           rotate_left
           ·intro w;go_simp;with_reducible rfl
           conv =>
            arg 7
            simp only [List.setIfInBounds_toArray,List.set_cons_succ,List.set_cons_zero]
           refine wpAny_ready (rs := [1,5]) (by kernel_rfl) (by simp) ?_
           refine AllReady.cons rfl (fun K hK => ?_) (AllReady.cons rfl (fun K hK => ?_) (AllReady.nil))
           ·skip
            go_simp
            go_wp2_with (go_at_call 207;refine (HN.out _ M0.out.rd).mono ?_;rintro e wq10 ⟨hg10,v10,rfl,rfl,hr10⟩)
            have M10:=Lib.hid (M0.out.call hgl hTg hg10 hr10)
            clear hg10 hr10
            refine wpAny_ready (rs := [5]) (by kernel_rfl) (by simp) ?_
            refine AllReady.cons rfl (fun K hK => ?_) (AllReady.nil)
            have b11:=M10.out.rb.cell 0
            go_simp
            refine hK _ _ ?_
            clear hK K
            clear b11
            refine take_put (i:=6) (d:=29) (v := ?_) rfl rfl (by kernel_rfl) (by kernel_rfl) (by kernel_rfl) (fun _ _ _ h=>h) (Or.inl ⟨by rfl,?_⟩) ?_
            rotate_left
            ·intro w;go_simp;with_reducible rfl
            conv =>
             arg 7
             simp only [List.setIfInBounds_toArray,List.set_cons_succ,List.set_cons_zero]
            refine wpAny_ready (rs := [7]) (by kernel_rfl) (by simp) ?_
            refine AllReady.cons rfl (fun K hK => ?_) (AllReady.nil)
            go_simp
            go_wp2_with (go_at_call 208;refine (HLo.out _ M10.out.rd).mono ?_;rintro e wq12 ⟨hg12,rfl⟩)
            exact ⟨rfl,grown_trans M10.out.gr hg12, .inr ⟨rfl, .inl Hst.out⟩⟩
           ·skip
            have b13:=M0.out.rb.cell 0
            go_simp
            refine hK _ _ ?_
            clear hK K
            clear b13
            refine take_put (i:=6) (d:=29) (v := ?_) rfl rfl (by kernel_rfl) (by kernel_rfl) (by kernel_rfl) (fun _ _ _ h=>h) (Or.inl ⟨by rfl,?_⟩) ?_
            rotate_left
            ·intro w;go_simp;with_reducible rfl
            conv =>
             arg 7
             simp only [List.setIfInBounds_toArray,List.set_cons_succ,List.set_cons_zero]
            refine wpAny_ready (rs := [1]) (by kernel_rfl) (by simp) ?_
            refine AllReady.cons rfl (fun K hK => ?_) (AllReady.nil)
            go_simp
            go_wp2_with (go_at_call 207;refine (HN.out _ M0.out.rd).mono ?_;rintro e wq14 ⟨hg14,v14,rfl,rfl,hr14⟩)
            have M14:=Lib.hid (M0.out.call hgl hTg hg14 hr14)
            clear hg14 hr14
            refine wpAny_ready (rs := [7]) (by kernel_rfl) (by simp) ?_
            refine AllReady.cons rfl (fun K hK => ?_) (AllReady.nil)
            go_simp
            go_wp2_with (go_at_call 208;refine (HLo.out _ M14.out.rd).mono ?_;rintro e wq15 ⟨hg15,rfl⟩)
            exact ⟨rfl,grown_trans M14.out.gr hg15, .inr ⟨rfl, .inl Hst.out⟩⟩
          ·skip
           have b16:=M0.out.rb.cell 0
           go_simp
           refine hK _ _ ?_
           clear hK K
           clear b16
           refine take_put (i:=6) (d:=29) (v := ?_) rfl rfl (by kernel_rfl) (by kernel_rfl) (by kernel_rfl) (fun _ _ _ h=>h) (Or.inl ⟨by rfl,?_⟩) ?_
           rotate_left
           ·intro w;go_simp;with_reducible rfl
           conv =>
            arg 7
            simp only [List.setIfInBounds_toArray,List.set_cons_succ,List.set_cons_zero]
           refine wpAny_ready (rs := [1,3]) (by kernel_rfl) (by simp) ?_
           refine AllReady.cons rfl (fun K hK => ?_) (AllReady.cons rfl (fun K hK => ?_) (AllReady.nil))
           ·skip
            go_simp
            go_wp2_with (go_at_call 207;refine (HN.out _ M0.out.rd).mono ?_;rintro e wq17 ⟨hg17,v17,rfl,rfl,hr17⟩)
            have M17:=Lib.hid (M0.out.call hgl hTg hg17 hr17)
            clear hg17 hr17
            refine wpAny_ready (rs := [3]) (by kernel_rfl) (by simp) ?_
            refine AllReady.cons rfl (fun K hK => ?_) (AllReady.nil)
            have o18:=M17.out.hb.cell 0
            go_simp
            refine hK _ _ ?_
            clear hK K
            clear o18
            refine take_put (i:=4) (d:=27) (v := ?_) rfl rfl (by kernel_rfl) (by kernel_rfl) (by kernel_rfl) (fun _ _ _ h=>h) (Or.inl ⟨by rfl,?_⟩) ?_
            rotate_left
            ·intro w;go_simp;with_reducible rfl
            conv =>
             arg 7
             simp only [List.setIfInBounds_toArray,List.set_cons_succ,List.set_cons_zero]
            refine wpAny_ready (rs := [7]) (by kernel_rfl) (by simp) ?_
            refine AllReady.cons rfl (fun K hK => ?_) (AllReady.nil)
            go_simp
            go_wp2_with (go_at_call 208;refine (HLo.out _ M17.out.rd).mono ?_;rintro e wq19 ⟨hg19,rfl⟩)
            exact ⟨rfl,grown_trans M17.out.gr hg19, .inr ⟨rfl, .inl Hst.out⟩⟩
           ·skip
            have o20:=M0.out.hb.cell 0
            go_simp
            refine hK _ _ ?_
            clear hK K
            clear o20
            refine take_put (i:=4) (d:=27) (v := ?_) rfl rfl (by kernel_rfl) (by kernel_rfl) (by kernel_rfl) (fun _ _ _ h=>h) (Or.inl ⟨by rfl,?_⟩) ?_
            rotate_left
            ·intro w;go_simp;with_reducible rfl
            conv =>
             arg 7
             simp only [List.setIfInBounds_toArray,List.set_cons_succ,List.set_cons_zero]
            refine wpAny_ready (rs := [1]) (by kernel_rfl) (by simp) ?_
            refine AllReady.cons rfl (fun K hK => ?_) (AllReady.nil)
            go_simp
            go_wp2_with (go_at_call 207;refine (HN.out _ M0.out.rd).mono ?_;rintro e wq21 ⟨hg21,v21,rfl,rfl,hr21⟩)
            have M21:=Lib.hid (M0.out.call hgl hTg hg21 hr21)
            clear hg21 hr21
            refine wpAny_ready (rs := [7]) (by kernel_rfl) (by simp) ?_
            refine AllReady.cons rfl (fun K hK => ?_) (AllReady.nil)
            go_simp
            go_wp2_with (go_at_call 208;refine (HLo.out _ M21.out.rd).mono ?_;rintro e wq22 ⟨hg22,rfl⟩)
            exact ⟨rfl,grown_trans M21.out.gr hg22, .inr ⟨rfl, .inl Hst.out⟩⟩
         ·skip
          have o23:=M0.out.hb.cell 0
          go_simp
          refine hK _ _ ?_
          clear hK K
          clear o23
          refine take_put (i:=4) (d:=27) (v := ?_) rfl rfl (by kernel_rfl) (by kernel_rfl) (by kernel_rfl) (fun _ _ _ h=>h) (Or.inl ⟨by rfl,?_⟩) ?_
          rotate_left
          ·intro w;go_simp;with_reducible rfl
          conv =>
           arg 7
           simp only [List.setIfInBounds_toArray,List.set_cons_succ,List.set_cons_zero]
          refine wpAny_ready (rs := [0,5]) (by kernel_rfl) (by simp) ?_
          refine AllReady.cons rfl (fun K hK => ?_) (AllReady.cons rfl (fun K hK => ?_) (AllReady.nil))
          ·skip
           have b24:=M0.out.rb.cell 0
           go_simp
           refine hK _ _ ?_
           clear hK K
           clear b24
           refine wpAny_ready (rs := [1,5]) (by kernel_rfl) (by simp) ?_
           refine AllReady.cons rfl (fun K hK => ?_) (AllReady.cons rfl (fun K hK => ?_) (AllReady.nil))
           ·skip
            go_simp
            go_wp2_with (go_at_call 207;refine (HN.out _ M0.out.rd).mono ?_;rintro e wq25 ⟨hg25,v25,rfl,rfl,hr25⟩)
            have M25:=Lib.hid (M0.out.call hgl hTg hg25 hr25)
            clear hg25 hr25
            refine wpAny_ready (rs := [5]) (by kernel_rfl) (by simp) ?_
            refine AllReady.cons rfl (fun K hK => ?_) (AllReady.nil)
            have b26:=M25.out.rb.cell 0
            go_simp
            refine hK _ _ ?_
            clear hK K
            clear b26
            refine take_put (i:=6) (d:=29) (v := ?_) rfl rfl (by kernel_rfl) (by kernel_rfl) (by kernel_rfl) (fun _ _ _ h=>h) (Or.inl ⟨by rfl,?_⟩) ?_
            rotate_left
            ·intro w;go_simp;with_reducible rfl
            conv =>
             arg 7
             simp only [List.setIfInBounds_toArray,List.set_cons_succ,List.set_cons_zero]
            refine wpAny_ready (rs := [7]) (by kernel_rfl) (by simp) ?_
            refine AllReady.cons rfl (fun K hK => ?_) (AllReady.nil)
            go_simp
            go_wp2_with (go_at_call 208;refine (HLo.out _ M25.out.rd).mono ?_;rintro e wq27 ⟨hg27,rfl⟩)
            exact ⟨rfl,grown_trans M25.out.gr hg27, .inr ⟨rfl, .inl Hst.out⟩⟩
           ·skip
            have b28:=M0.out.rb.cell 0
            go_simp
            refine hK _ _ ?_
            clear hK K
            clear b28
            refine take_put (i:=6) (d:=29) (v := ?_) rfl rfl (by kernel_rfl) (by kernel_rfl) (by kernel_rfl) (fun _ _ _ h=>h) (Or.inl ⟨by rfl,?_⟩) ?_
            rotate_left
            ·intro w;go_simp;with_reducible rfl
            conv =>
             arg 7
             simp only [List.setIfInBounds_toArray,List.set_cons_succ,List.set_cons_zero]
            refine wpAny_ready (rs := [1]) (by kernel_rfl) (by simp) ?_
            refine AllReady.cons rfl (fun K hK => ?_) (AllReady.nil)
            go_simp
            go_wp2_with (go_at_call 207;refine (HN.out _ M0.out.rd).mono ?_;rintro e wq29 ⟨hg29,v29,rfl,rfl,hr29⟩)
            have M29:=Lib.hid (M0.out.call hgl hTg hg29 hr29)
            clear hg29 hr29
            refine wpAny_ready (rs := [7]) (by kernel_rfl) (by simp) ?_
            refine AllReady.cons rfl (fun K hK => ?_) (AllReady.nil)
            go_simp
            go_wp2_with (go_at_call 208;refine (HLo.out _ M29.out.rd).mono ?_;rintro e wq30 ⟨hg30,rfl⟩)
            exact ⟨rfl,grown_trans M29.out.gr hg30, .inr ⟨rfl, .inl Hst.out⟩⟩
          ·skip
           have b31:=M0.out.rb.cell 0
           go_simp
           refine hK _ _ ?_
           clear hK K
           clear b31
           refine take_put (i:=6) (d:=29) (v := ?_) rfl rfl (by kernel_rfl) (by kernel_rfl) (by kernel_rfl) (fun _ _ _ h=>h) (Or.inl ⟨by rfl,?_⟩) ?_
           rotate_left
           ·intro w;go_simp;with_reducible rfl
           conv =>
            arg 7
            simp only [List.setIfInBounds_toArray,List.set_cons_succ,List.set_cons_zero]
           refine wpAny_ready (rs := [0]) (by kernel_rfl) (by simp) ?_
           refine AllReady.cons rfl (fun K hK => ?_) (AllReady.nil)
           have b32:=M0.out.rb.cell 0
           go_simp
           refine hK _ _ ?_
           clear hK K
           clear b32
           refine wpAny_ready (rs := [1]) (by kernel_rfl) (by simp) ?_
           refine AllReady.cons rfl (fun K hK => ?_) (AllReady.nil)
           go_simp
           go_wp2_with (go_at_call 207;refine (HN.out _ M0.out.rd).mono ?_;rintro e wq33 ⟨hg33,v33,rfl,rfl,hr33⟩)
           have M33:=Lib.hid (M0.out.call hgl hTg hg33 hr33)
           clear hg33 hr33
           refine wpAny_ready (rs := [7]) (by kernel_rfl) (by simp) ?_
           refine AllReady.cons rfl (fun K hK => ?_) (AllReady.nil)
           go_simp
           go_wp2_with (go_at_call 208;refine (HLo.out _ M33.out.rd).mono ?_;rintro e wq34 ⟨hg34,rfl⟩)
           exact ⟨rfl,grown_trans M33.out.gr hg34, .inr ⟨rfl, .inl Hst.out⟩⟩
         ·skip
          have b35:=M0.out.rb.cell 0
          go_simp
          refine hK _ _ ?_
          clear hK K
          clear b35
          refine take_put (i:=6) (d:=29) (v := ?_) rfl rfl (by kernel_rfl) (by kernel_rfl) (by kernel_rfl) (fun _ _ _ h=>h) (Or.inl ⟨by rfl,?_⟩) ?_
          rotate_left
          ·intro w;go_simp;with_reducible rfl
          conv =>
           arg 7
           simp only [List.setIfInBounds_toArray,List.set_cons_succ,List.set_cons_zero]
          refine wpAny_ready (rs := [0,3]) (by kernel_rfl) (by simp) ?_
          refine AllReady.cons rfl (fun K hK => ?_) (AllReady.cons rfl (fun K hK => ?_) (AllReady.nil))
          ·skip
           have b36:=M0.out.rb.cell 0
           go_simp
           refine hK _ _ ?_
           clear hK K
           clear b36
           refine wpAny_ready (rs := [1,3]) (by kernel_rfl) (by simp) ?_
           refine AllReady.cons rfl (fun K hK => ?_) (AllReady.cons rfl (fun K hK => ?_) (AllReady.nil))
           ·skip
            go_simp
            go_wp2_with (go_at_call 207;refine (HN.out _ M0.out.rd).mono ?_;rintro e wq37 ⟨hg37,v37,rfl,rfl,hr37⟩)
            have M37:=Lib.hid (M0.out.call hgl hTg hg37 hr37)
            clear hg37 hr37
            refine wpAny_ready (rs := [3]) (by kernel_rfl) (by simp) ?_
            refine AllReady.cons rfl (fun K hK => ?_) (AllReady.nil)
            have o38:=M37.out.hb.cell 0
            go_simp
            refine hK _ _ ?_
            clear hK K
            clear o38
            refine take_put (i:=4) (d:=27) (v := ?_) rfl rfl (by kernel_rfl) (by kernel_rfl) (by kernel_rfl) (fun _ _ _ h=>h) (Or.inl ⟨by rfl,?_⟩) ?_
            rotate_left
            ·intro w;go_simp;with_reducible rfl
            conv =>
             arg 7
             simp only [List.setIfInBounds_toArray,List.set_cons_succ,List.set_cons_zero]
            refine wpAny_ready (rs := [7]) (by kernel_rfl) (by simp) ?_
            refine AllReady.cons rfl (fun K hK => ?_) (AllReady.nil)
            go_simp
            go_wp2_with (go_at_call 208;refine (HLo.out _ M37.out.rd).mono ?_;rintro e wq39 ⟨hg39,rfl⟩)
            exact ⟨rfl,grown_trans M37.out.gr hg39, .inr ⟨rfl, .inl Hst.out⟩⟩
           ·skip
            have o40:=M0.out.hb.cell 0
            go_simp
            refine hK _ _ ?_
            clear hK K
            clear o40
            refine take_put (i:=4) (d:=27) (v := ?_) rfl rfl (by kernel_rfl) (by kernel_rfl) (by kernel_rfl) (fun _ _ _ h=>h) (Or.inl ⟨by rfl,?_⟩) ?_
            rotate_left
            ·intro w;go_simp;with_reducible rfl
            conv =>
             arg 7
             simp only [List.setIfInBounds_toArray,List.set_cons_succ,List.set_cons_zero]
            refine wpAny_ready (rs := [1]) (by kernel_rfl) (by simp) ?_
            refine AllReady.cons rfl (fun K hK => ?_) (AllReady.nil)
            go_simp
            go_wp2_with (go_at_call 207;refine (HN.out _ M0.out.rd).mono ?_;rintro e wq41 ⟨hg41,v41,rfl,rfl,hr41⟩)
            have M41:=Lib.hid (M0.out.call hgl hTg hg41 hr41)
            clear hg41 hr41
            refine wpAny_ready (rs := [7]) (by kernel_rfl) (by simp) ?_
            refine AllReady.cons rfl (fun K hK => ?_) (AllReady.nil)
            go_simp
            go_wp2_with (go_at_call 208;refine (HLo.out _ M41.out.rd).mono ?_;rintro e wq42 ⟨hg42,rfl⟩)
            exact ⟨rfl,grown_trans M41.out.gr hg42, .inr ⟨rfl, .inl Hst.out⟩⟩
          ·skip
           have o43:=M0.out.hb.cell 0
           go_simp
           refine hK _ _ ?_
           clear hK K
           clear o43
           refine take_put (i:=4) (d:=27) (v := ?_) rfl rfl (by kernel_rfl) (by kernel_rfl) (by kernel_rfl) (fun _ _ _ h=>h) (Or.inl ⟨by rfl,?_⟩) ?_
           rotate_left
           ·intro w;go_simp;with_reducible rfl
           conv =>
            arg 7
            simp only [List.setIfInBounds_toArray,List.set_cons_succ,List.set_cons_zero]
           refine wpAny_ready (rs := [0]) (by kernel_rfl) (by simp) ?_
           refine AllReady.cons rfl (fun K hK => ?_) (AllReady.nil)
           have b44:=M0.out.rb.cell 0
           go_simp
           refine hK _ _ ?_
           clear hK K
           clear b44
           refine wpAny_ready (rs := [1]) (by kernel_rfl) (by simp) ?_
           refine AllReady.cons rfl (fun K hK => ?_) (AllReady.nil)
           go_simp
           go_wp2_with (go_at_call 207;refine (HN.out _ M0.out.rd).mono ?_;rintro e wq45 ⟨hg45,v45,rfl,rfl,hr45⟩)
           have M45:=Lib.hid (M0.out.call hgl hTg hg45 hr45)
           clear hg45 hr45
           refine wpAny_ready (rs := [7]) (by kernel_rfl) (by simp) ?_
           refine AllReady.cons rfl (fun K hK => ?_) (AllReady.nil)
           go_simp
           go_wp2_with (go_at_call 208;refine (HLo.out _ M45.out.rd).mono ?_;rintro e wq46 ⟨hg46,rfl⟩)
           exact ⟨rfl,grown_trans M45.out.gr hg46, .inr ⟨rfl, .inl Hst.out⟩⟩
         -- end 8 B
        | some q =>
         obtain ⟨xs,l5⟩:=q
         rw [hq5] at HLo
         have HP8:praw gp l=some (⟨od,xs,nx, [t0,t1,t2,t3], []⟩,l5):=by
          rw [hpw]
          by_cases q:mo < cn
          ·rw [if_pos q] at hq5;cases hq5
          ·rw [if_neg q] at hq5
           rw [decide_eq_false q,hq5];rfl
         have H8:=Lib.hid HP8
         clear hmo hq4 hq5 hpw hgp hc0 HP8
         -- region 8 C
         refine wp_region_any (by kernel_rfl) ?_
         change wpAny _ _ _ _ _ _ _ (World.drew _)
         refine take_put (i:=2) (d:=25) (v := ?_) rfl rfl (by kernel_rfl) (by kernel_rfl) (by kernel_rfl) (fun _ _ _ h=>h) (Or.inl ⟨by rfl,?_⟩) ?_
         rotate_left
         ·intro w;go_simp;with_reducible rfl
         conv =>
          arg 7
          simp only [List.setIfInBounds_toArray,List.set_cons_succ,List.set_cons_zero]
         refine wpAny_ready (rs := [0,3,5]) (by kernel_rfl) (by simp) ?_
         refine AllReady.cons rfl (fun K hK => ?_) (AllReady.cons rfl (fun K hK => ?_) (AllReady.cons rfl (fun K hK => ?_) (AllReady.nil)))
         ·skip
          have b1:=M0.out.rb.cell 0
          go_simp
          refine hK _ _ ?_
          clear hK K
          clear b1
          refine wpAny_ready (rs := [1,3,5]) (by kernel_rfl) (by simp) ?_
          refine AllReady.cons rfl (fun K hK => ?_) (AllReady.cons rfl (fun K hK => ?_) (AllReady.cons rfl (fun K hK => ?_) (AllReady.nil)))
          ·skip
           go_simp
           go_wp2_with (go_at_call 207;refine (HN.out _ M0.out.rd).mono ?_;rintro e wq2 ⟨hg2,v2,rfl,rfl,hr2⟩)
           have M2:=Lib.hid (M0.out.call hgl hTg hg2 hr2)
           clear hg2 hr2
           refine wpAny_ready (rs := [3,5]) (by kernel_rfl) (by simp) ?_
           refine AllReady.cons rfl (fun K hK => ?_) (AllReady.cons rfl (fun K hK => ?_) (AllReady.nil))
           ·skip
            have o3:=M2.out.hb.cell 0
            go_simp
            refine hK _ _ ?_
            clear hK K
            clear o3
            refine take_put (i:=4) (d:=27) (v := ?_) rfl rfl (by kernel_rfl) (by kernel_rfl) (by kernel_rfl) (fun _ _ _ h=>h) (Or.inl ⟨by rfl,?_⟩) ?_
            rotate_left
            ·intro w;go_simp;with_reducible rfl
            conv =>
             arg 7
             simp only [List.setIfInBounds_toArray,List.set_cons_succ,List.set_cons_zero]
            refine wpAny_ready (rs := [5]) (by kernel_rfl) (by simp) ?_
            refine AllReady.cons rfl (fun K hK => ?_) (AllReady.nil)
            have b4:=M2.out.rb.cell 0
            go_simp
            refine hK _ _ ?_
            clear hK K
            clear b4
            refine take_put (i:=6) (d:=29) (v := ?_) rfl rfl (by kernel_rfl) (by kernel_rfl) (by kernel_rfl) (fun _ _ _ h=>h) (Or.inl ⟨by rfl,?_⟩) ?_
            rotate_left
            ·intro w;go_simp;with_reducible rfl
            conv =>
             arg 7
             simp only [List.setIfInBounds_toArray,List.set_cons_succ,List.set_cons_zero]
            refine wpAny_ready (rs := [7]) (by kernel_rfl) (by simp) ?_
            refine AllReady.cons rfl (fun K hK => ?_) (AllReady.nil)
            go_simp
            go_wp2_with (go_at_call 208;refine (HLo.out _ M2.out.rd).mono ?_;rintro e wq5 ⟨hg5,v5,rfl,⟨os,hos,oo5⟩,hr5⟩)
            have oB:=M2.out.hb.lt
            have oM:=Lib.hid (M2.out.call hgl hTg hg5 hr5)
            obtain ⟨Ao,co,rfl,ro⟩:=oo5.rd
            have oO:=Lib.hid oo5
            clear hg5 hr5 oo5
            refine take_put (i:=8) (d:=31) (v := ?_) rfl rfl (by kernel_rfl) (by kernel_rfl) (by kernel_rfl) (fun _ _ _ h=>h) (Or.inl ⟨by rfl,?_⟩) ?_
            rotate_left
            ·intro w;go_simp;with_reducible rfl
            conv =>
             arg 7
             simp only [List.setIfInBounds_toArray,List.set_cons_succ,List.set_cons_zero]
            refine wpAny_ready (rs := [9]) (by kernel_rfl) (by simp) ?_
            refine AllReady.cons rfl (fun K hK => ?_) (AllReady.nil)
            have c6:=oM.out.hb.cell 1
            have z6:=oM.out.hb.free 1
            go_simp
            refine hK _ _ ?_
            clear hK K
            clear c6 z6
            refine wpAny_done (by kernel_rfl) ?_ _
            go_wp2_with fail
            go_meet
            exact R8.mk_ H8.out hos hgl hTl (fun _ e=>by cases e) (fun _ e=>by cases e) oM.out oO.out oB
           ·skip
            have b7:=M2.out.rb.cell 0
            go_simp
            refine hK _ _ ?_
            clear hK K
            clear b7
            refine take_put (i:=6) (d:=29) (v := ?_) rfl rfl (by kernel_rfl) (by kernel_rfl) (by kernel_rfl) (fun _ _ _ h=>h) (Or.inl ⟨by rfl,?_⟩) ?_
            rotate_left
            ·intro w;go_simp;with_reducible rfl
            conv =>
             arg 7
             simp only [List.setIfInBounds_toArray,List.set_cons_succ,List.set_cons_zero]
            refine wpAny_ready (rs := [3]) (by kernel_rfl) (by simp) ?_
            refine AllReady.cons rfl (fun K hK => ?_) (AllReady.nil)
            have o8:=M2.out.hb.cell 0
            go_simp
            refine hK _ _ ?_
            clear hK K
            clear o8
            refine take_put (i:=4) (d:=27) (v := ?_) rfl rfl (by kernel_rfl) (by kernel_rfl) (by kernel_rfl) (fun _ _ _ h=>h) (Or.inl ⟨by rfl,?_⟩) ?_
            rotate_left
            ·intro w;go_simp;with_reducible rfl
            conv =>
             arg 7
             simp only [List.setIfInBounds_toArray,List.set_cons_succ,List.set_cons_zero]
            refine wpAny_ready (rs := [7]) (by kernel_rfl) (by simp) ?_
            refine AllReady.cons rfl (fun K hK => ?_) (AllReady.nil)
            go_simp
            go_wp2_with (go_at_call 208;refine (HLo.out _ M2.out.rd).mono ?_;rintro e wq9 ⟨hg9,v9,rfl,⟨os,hos,oo9⟩,hr9⟩)
            have oB:=M2.out.hb.lt
            have oM:=Lib.hid (M2.out.call hgl hTg hg9 hr9)
            obtain ⟨Ao,co,rfl,ro⟩:=oo9.rd
            have oO:=Lib.hid oo9
            clear hg9 hr9 oo9
            refine take_put (i:=8) (d:=31) (v := ?_) rfl rfl (by kernel_rfl) (by kernel_rfl) (by kernel_rfl) (fun _ _ _ h=>h) (Or.inl ⟨by rfl,?_⟩) ?_
            rotate_left
            ·intro w;go_simp;with_reducible rfl
            conv =>
             arg 7
             simp only [List.setIfInBounds_toArray,List.set_cons_succ,List.set_cons_zero]
            refine wpAny_ready (rs := [9]) (by kernel_rfl) (by simp) ?_
            refine AllReady.cons rfl (fun K hK => ?_) (AllReady.nil)
            have c10:=oM.out.hb.cell 1
            have z10:=oM.out.hb.free 1
            go_simp
            refine hK _ _ ?_
            clear hK K
            clear c10 z10
            refine wpAny_done (by kernel_rfl) ?_ _
            go_wp2_with fail
            go_meet
            exact R8.mk_ H8.out hos hgl hTl (fun _ e=>by cases e) (fun _ e=>by cases e) oM.out oO.out oB
          ·skip
           have o11:=M0.out.hb.cell 0
           go_simp
           refine hK _ _ ?_
           clear hK K
           clear o11
           refine take_put (i:=4) (d:=27) (v := ?_) rfl rfl (by kernel_rfl) (by kernel_rfl) (by kernel_rfl) (fun _ _ _ h=>h) (Or.inl ⟨by rfl,?_⟩) ?_
           rotate_left
           ·intro w;go_simp;with_reducible rfl
           conv =>
            arg 7
            simp only [List.setIfInBounds_toArray,List.set_cons_succ,List.set_cons_zero]
           refine wpAny_ready (rs := [1,5]) (by kernel_rfl) (by simp) ?_
           refine AllReady.cons rfl (fun K hK => ?_) (AllReady.cons rfl (fun K hK => ?_) (AllReady.nil))
           ·skip
            go_simp
            go_wp2_with (go_at_call 207;refine (HN.out _ M0.out.rd).mono ?_;rintro e wq12 ⟨hg12,v12,rfl,rfl,hr12⟩)
            have M12:=Lib.hid (M0.out.call hgl hTg hg12 hr12)
            clear hg12 hr12
            refine wpAny_ready (rs := [5]) (by kernel_rfl) (by simp) ?_
            refine AllReady.cons rfl (fun K hK => ?_) (AllReady.nil)
            have b13:=M12.out.rb.cell 0
            go_simp
            refine hK _ _ ?_
            clear hK K
            clear b13
            refine take_put (i:=6) (d:=29) (v := ?_) rfl rfl (by kernel_rfl) (by kernel_rfl) (by kernel_rfl) (fun _ _ _ h=>h) (Or.inl ⟨by rfl,?_⟩) ?_
            rotate_left
            ·intro w;go_simp;with_reducible rfl
            conv =>
             arg 7
             simp only [List.setIfInBounds_toArray,List.set_cons_succ,List.set_cons_zero]
            refine wpAny_ready (rs := [7]) (by kernel_rfl) (by simp) ?_
            refine AllReady.cons rfl (fun K hK => ?_) (AllReady.nil)
            go_simp
            go_wp2_with (go_at_call 208;refine (HLo.out _ M12.out.rd).mono ?_;rintro e wq14 ⟨hg14,v14,rfl,⟨os,hos,oo14⟩,hr14⟩)
            have oB:=M12.out.hb.lt
            have oM:=Lib.hid (M12.out.call hgl hTg hg14 hr14)
            obtain ⟨Ao,co,rfl,ro⟩:=oo14.rd
            have oO:=Lib.hid oo14
            clear hg14 hr14 oo14
            refine take_put (i:=8) (d:=31) (v := ?_) rfl rfl (by kernel_rfl) (by kernel_rfl) (by kernel_rfl) (fun _ _ _ h=>h) (Or.inl ⟨by rfl,?_⟩) ?_
            rotate_left
            ·intro w;go_simp;with_reducible rfl
            conv =>
             arg 7
             simp only [List.setIfInBounds_toArray,List.set_cons_succ,List.set_cons_zero]
            refine wpAny_ready (rs := [9]) (by kernel_rfl) (by simp) ?_
            refine AllReady.cons rfl (fun K hK => ?_) (AllReady.nil)
            have c15:=oM.out.hb.cell 1
            have z15:=oM.out.hb.free 1
            go_simp
            refine hK _ _ ?_
            clear hK K
            clear c15 z15
            refine wpAny_done (by kernel_rfl) ?_ _
            go_wp2_with fail
            go_meet
            exact R8.mk_ H8.out hos hgl hTl (fun _ e=>by cases e) (fun _ e=>by cases e) oM.out oO.out oB
           ·skip
            have b16:=M0.out.rb.cell 0
            go_simp
            refine hK _ _ ?_
            clear hK K
            clear b16
            refine take_put (i:=6) (d:=29) (v := ?_) rfl rfl (by kernel_rfl) (by kernel_rfl) (by kernel_rfl) (fun _ _ _ h=>h) (Or.inl ⟨by rfl,?_⟩) ?_
            rotate_left
            ·intro w;go_simp;with_reducible rfl
            conv =>
             arg 7
             simp only [List.setIfInBounds_toArray,List.set_cons_succ,List.set_cons_zero]
            refine wpAny_ready (rs := [1]) (by kernel_rfl) (by simp) ?_
            refine AllReady.cons rfl (fun K hK => ?_) (AllReady.nil)
            go_simp
            go_wp2_with (go_at_call 207;refine (HN.out _ M0.out.rd).mono ?_;rintro e wq17 ⟨hg17,v17,rfl,rfl,hr17⟩)
            have M17:=Lib.hid (M0.out.call hgl hTg hg17 hr17)
            clear hg17 hr17
            refine wpAny_ready (rs := [7]) (by kernel_rfl) (by simp) ?_
            refine AllReady.cons rfl (fun K hK => ?_) (AllReady.nil)
            go_simp
            go_wp2_with (go_at_call 208;refine (HLo.out _ M17.out.rd).mono ?_;rintro e wq18 ⟨hg18,v18,rfl,⟨os,hos,oo18⟩,hr18⟩)
            have oB:=M17.out.hb.lt
            have oM:=Lib.hid (M17.out.call hgl hTg hg18 hr18)
            obtain ⟨Ao,co,rfl,ro⟩:=oo18.rd
            have oO:=Lib.hid oo18
            clear hg18 hr18 oo18
            refine take_put (i:=8) (d:=31) (v := ?_) rfl rfl (by kernel_rfl) (by kernel_rfl) (by kernel_rfl) (fun _ _ _ h=>h) (Or.inl ⟨by rfl,?_⟩) ?_
            rotate_left
            ·intro w;go_simp;with_reducible rfl
            conv =>
             arg 7
             simp only [List.setIfInBounds_toArray,List.set_cons_succ,List.set_cons_zero]
            refine wpAny_ready (rs := [9]) (by kernel_rfl) (by simp) ?_
            refine AllReady.cons rfl (fun K hK => ?_) (AllReady.nil)
            have c19:=oM.out.hb.cell 1
            have z19:=oM.out.hb.free 1
            go_simp
            refine hK _ _ ?_
            clear hK K
            clear c19 z19
            refine wpAny_done (by kernel_rfl) ?_ _
            go_wp2_with fail
            go_meet
            exact R8.mk_ H8.out hos hgl hTl (fun _ e=>by cases e) (fun _ e=>by cases e) oM.out oO.out oB
          ·skip
           have b20:=M0.out.rb.cell 0
           go_simp
           refine hK _ _ ?_
           clear hK K
           clear b20
           refine take_put (i:=6) (d:=29) (v := ?_) rfl rfl (by kernel_rfl) (by kernel_rfl) (by kernel_rfl) (fun _ _ _ h=>h) (Or.inl ⟨by rfl,?_⟩) ?_
           rotate_left
           ·intro w;go_simp;with_reducible rfl
           conv =>
            arg 7
            simp only [List.setIfInBounds_toArray,List.set_cons_succ,List.set_cons_zero]
           refine wpAny_ready (rs := [1,3]) (by kernel_rfl) (by simp) ?_
           refine AllReady.cons rfl (fun K hK => ?_) (AllReady.cons rfl (fun K hK => ?_) (AllReady.nil))
           ·skip
            go_simp
            go_wp2_with (go_at_call 207;refine (HN.out _ M0.out.rd).mono ?_;rintro e wq21 ⟨hg21,v21,rfl,rfl,hr21⟩)
            have M21:=Lib.hid (M0.out.call hgl hTg hg21 hr21)
            clear hg21 hr21
            refine wpAny_ready (rs := [3]) (by kernel_rfl) (by simp) ?_
            refine AllReady.cons rfl (fun K hK => ?_) (AllReady.nil)
            have o22:=M21.out.hb.cell 0
            go_simp
            refine hK _ _ ?_
            clear hK K
            clear o22
            refine take_put (i:=4) (d:=27) (v := ?_) rfl rfl (by kernel_rfl) (by kernel_rfl) (by kernel_rfl) (fun _ _ _ h=>h) (Or.inl ⟨by rfl,?_⟩) ?_
            rotate_left
            ·intro w;go_simp;with_reducible rfl
            conv =>
             arg 7
             simp only [List.setIfInBounds_toArray,List.set_cons_succ,List.set_cons_zero]
            refine wpAny_ready (rs := [7]) (by kernel_rfl) (by simp) ?_
            refine AllReady.cons rfl (fun K hK => ?_) (AllReady.nil)
            go_simp
            go_wp2_with (go_at_call 208;refine (HLo.out _ M21.out.rd).mono ?_;rintro e wq23 ⟨hg23,v23,rfl,⟨os,hos,oo23⟩,hr23⟩)
            have oB:=M21.out.hb.lt
            have oM:=Lib.hid (M21.out.call hgl hTg hg23 hr23)
            obtain ⟨Ao,co,rfl,ro⟩:=oo23.rd
            have oO:=Lib.hid oo23
            clear hg23 hr23 oo23
            refine take_put (i:=8) (d:=31) (v := ?_) rfl rfl (by kernel_rfl) (by kernel_rfl) (by kernel_rfl) (fun _ _ _ h=>h) (Or.inl ⟨by rfl,?_⟩) ?_
            rotate_left
            ·intro w;go_simp;with_reducible rfl
            conv =>
             arg 7
             simp only [List.setIfInBounds_toArray,List.set_cons_succ,List.set_cons_zero]
            refine wpAny_ready (rs := [9]) (by kernel_rfl) (by simp) ?_
            refine AllReady.cons rfl (fun K hK => ?_) (AllReady.nil)
            have c24:=oM.out.hb.cell 1
            have z24:=oM.out.hb.free 1
            go_simp
            refine hK _ _ ?_
            clear hK K
            clear c24 z24
            refine wpAny_done (by kernel_rfl) ?_ _
            go_wp2_with fail
            go_meet
            exact R8.mk_ H8.out hos hgl hTl (fun _ e=>by cases e) (fun _ e=>by cases e) oM.out oO.out oB
           ·skip
            have o25:=M0.out.hb.cell 0
            go_simp
            refine hK _ _ ?_
            clear hK K
            clear o25
            refine take_put (i:=4) (d:=27) (v := ?_) rfl rfl (by kernel_rfl) (by kernel_rfl) (by kernel_rfl) (fun _ _ _ h=>h) (Or.inl ⟨by rfl,?_⟩) ?_
            rotate_left
            ·intro w;go_simp;with_reducible rfl
            conv =>
             arg 7
             simp only [List.setIfInBounds_toArray,List.set_cons_succ,List.set_cons_zero]
            refine wpAny_ready (rs := [1]) (by kernel_rfl) (by simp) ?_
            refine AllReady.cons rfl (fun K hK => ?_) (AllReady.nil)
            go_simp
            go_wp2_with (go_at_call 207;refine (HN.out _ M0.out.rd).mono ?_;rintro e wq26 ⟨hg26,v26,rfl,rfl,hr26⟩)
            have M26:=Lib.hid (M0.out.call hgl hTg hg26 hr26)
            clear hg26 hr26
            refine wpAny_ready (rs := [7]) (by kernel_rfl) (by simp) ?_
            refine AllReady.cons rfl (fun K hK => ?_) (AllReady.nil)
            go_simp
            go_wp2_with (go_at_call 208;refine (HLo.out _ M26.out.rd).mono ?_;rintro e wq27 ⟨hg27,v27,rfl,⟨os,hos,oo27⟩,hr27⟩)
            have oB:=M26.out.hb.lt
            have oM:=Lib.hid (M26.out.call hgl hTg hg27 hr27)
            obtain ⟨Ao,co,rfl,ro⟩:=oo27.rd
            have oO:=Lib.hid oo27
            clear hg27 hr27 oo27
            refine take_put (i:=8) (d:=31) (v := ?_) rfl rfl (by kernel_rfl) (by kernel_rfl) (by kernel_rfl) (fun _ _ _ h=>h) (Or.inl ⟨by rfl,?_⟩) ?_
            rotate_left
            ·intro w;go_simp;with_reducible rfl
            conv =>
             arg 7
             simp only [List.setIfInBounds_toArray,List.set_cons_succ,List.set_cons_zero]
            refine wpAny_ready (rs := [9]) (by kernel_rfl) (by simp) ?_
            refine AllReady.cons rfl (fun K hK => ?_) (AllReady.nil)
            have c28:=oM.out.hb.cell 1
            have z28:=oM.out.hb.free 1
            go_simp
            refine hK _ _ ?_
            clear hK K
            clear c28 z28
            refine wpAny_done (by kernel_rfl) ?_ _
            go_wp2_with fail
            go_meet
            exact R8.mk_ H8.out hos hgl hTl (fun _ e=>by cases e) (fun _ e=>by cases e) oM.out oO.out oB
         ·skip
          have o29:=M0.out.hb.cell 0
          go_simp
          refine hK _ _ ?_
          clear hK K
          clear o29
          refine take_put (i:=4) (d:=27) (v := ?_) rfl rfl (by kernel_rfl) (by kernel_rfl) (by kernel_rfl) (fun _ _ _ h=>h) (Or.inl ⟨by rfl,?_⟩) ?_
          rotate_left
          ·intro w;go_simp;with_reducible rfl
          conv =>
           arg 7
           simp only [List.setIfInBounds_toArray,List.set_cons_succ,List.set_cons_zero]
          refine wpAny_ready (rs := [0,5]) (by kernel_rfl) (by simp) ?_
          refine AllReady.cons rfl (fun K hK => ?_) (AllReady.cons rfl (fun K hK => ?_) (AllReady.nil))
          ·skip
           have b30:=M0.out.rb.cell 0
           go_simp
           refine hK _ _ ?_
           clear hK K
           clear b30
           refine wpAny_ready (rs := [1,5]) (by kernel_rfl) (by simp) ?_
           refine AllReady.cons rfl (fun K hK => ?_) (AllReady.cons rfl (fun K hK => ?_) (AllReady.nil))
           ·skip
            go_simp
            go_wp2_with (go_at_call 207;refine (HN.out _ M0.out.rd).mono ?_;rintro e wq31 ⟨hg31,v31,rfl,rfl,hr31⟩)
            have M31:=Lib.hid (M0.out.call hgl hTg hg31 hr31)
            clear hg31 hr31
            refine wpAny_ready (rs := [5]) (by kernel_rfl) (by simp) ?_
            refine AllReady.cons rfl (fun K hK => ?_) (AllReady.nil)
            have b32:=M31.out.rb.cell 0
            go_simp
            refine hK _ _ ?_
            clear hK K
            clear b32
            refine take_put (i:=6) (d:=29) (v := ?_) rfl rfl (by kernel_rfl) (by kernel_rfl) (by kernel_rfl) (fun _ _ _ h=>h) (Or.inl ⟨by rfl,?_⟩) ?_
            rotate_left
            ·intro w;go_simp;with_reducible rfl
            conv =>
             arg 7
             simp only [List.setIfInBounds_toArray,List.set_cons_succ,List.set_cons_zero]
            refine wpAny_ready (rs := [7]) (by kernel_rfl) (by simp) ?_
            refine AllReady.cons rfl (fun K hK => ?_) (AllReady.nil)
            go_simp
            go_wp2_with (go_at_call 208;refine (HLo.out _ M31.out.rd).mono ?_;rintro e wq33 ⟨hg33,v33,rfl,⟨os,hos,oo33⟩,hr33⟩)
            have oB:=M31.out.hb.lt
            have oM:=Lib.hid (M31.out.call hgl hTg hg33 hr33)
            obtain ⟨Ao,co,rfl,ro⟩:=oo33.rd
            have oO:=Lib.hid oo33
            clear hg33 hr33 oo33
            refine take_put (i:=8) (d:=31) (v := ?_) rfl rfl (by kernel_rfl) (by kernel_rfl) (by kernel_rfl) (fun _ _ _ h=>h) (Or.inl ⟨by rfl,?_⟩) ?_
            rotate_left
            ·intro w;go_simp;with_reducible rfl
            conv =>
             arg 7
             simp only [List.setIfInBounds_toArray,List.set_cons_succ,List.set_cons_zero]
            refine wpAny_ready (rs := [9]) (by kernel_rfl) (by simp) ?_
            refine AllReady.cons rfl (fun K hK => ?_) (AllReady.nil)
            have c34:=oM.out.hb.cell 1
            have z34:=oM.out.hb.free 1
            go_simp
            refine hK _ _ ?_
            clear hK K
            clear c34 z34
            refine wpAny_done (by kernel_rfl) ?_ _
            go_wp2_with fail
            go_meet
            exact R8.mk_ H8.out hos hgl hTl (fun _ e=>by cases e) (fun _ e=>by cases e) oM.out oO.out oB
           ·skip
            have b35:=M0.out.rb.cell 0
            go_simp
            refine hK _ _ ?_
            clear hK K
            clear b35
            refine take_put (i:=6) (d:=29) (v := ?_) rfl rfl (by kernel_rfl) (by kernel_rfl) (by kernel_rfl) (fun _ _ _ h=>h) (Or.inl ⟨by rfl,?_⟩) ?_
            rotate_left
            ·intro w;go_simp;with_reducible rfl
            conv =>
             arg 7
             simp only [List.setIfInBounds_toArray,List.set_cons_succ,List.set_cons_zero]
            refine wpAny_ready (rs := [1]) (by kernel_rfl) (by simp) ?_
            refine AllReady.cons rfl (fun K hK => ?_) (AllReady.nil)
            go_simp
            go_wp2_with (go_at_call 207;refine (HN.out _ M0.out.rd).mono ?_;rintro e wq36 ⟨hg36,v36,rfl,rfl,hr36⟩)
            have M36:=Lib.hid (M0.out.call hgl hTg hg36 hr36)
            clear hg36 hr36
            refine wpAny_ready (rs := [7]) (by kernel_rfl) (by simp) ?_
            refine AllReady.cons rfl (fun K hK => ?_) (AllReady.nil)
            go_simp
            go_wp2_with (go_at_call 208;refine (HLo.out _ M36.out.rd).mono ?_;rintro e wq37 ⟨hg37,v37,rfl,⟨os,hos,oo37⟩,hr37⟩)
            have oB:=M36.out.hb.lt
            have oM:=Lib.hid (M36.out.call hgl hTg hg37 hr37)
            obtain ⟨Ao,co,rfl,ro⟩:=oo37.rd
            have oO:=Lib.hid oo37
            clear hg37 hr37 oo37
            refine take_put (i:=8) (d:=31) (v := ?_) rfl rfl (by kernel_rfl) (by kernel_rfl) (by kernel_rfl) (fun _ _ _ h=>h) (Or.inl ⟨by rfl,?_⟩) ?_
            rotate_left
            ·intro w;go_simp;with_reducible rfl
            conv =>
             arg 7
             simp only [List.setIfInBounds_toArray,List.set_cons_succ,List.set_cons_zero]
            refine wpAny_ready (rs := [9]) (by kernel_rfl) (by simp) ?_
            refine AllReady.cons rfl (fun K hK => ?_) (AllReady.nil)
            have c38:=oM.out.hb.cell 1
            have z38:=oM.out.hb.free 1
            go_simp
            refine hK _ _ ?_
            clear hK K
            clear c38 z38
            refine wpAny_done (by kernel_rfl) ?_ _
            go_wp2_with fail
            go_meet
            exact R8.mk_ H8.out hos hgl hTl (fun _ e=>by cases e) (fun _ e=>by cases e) oM.out oO.out oB
          ·skip
           have b39:=M0.out.rb.cell 0
           go_simp
           refine hK _ _ ?_
           clear hK K
           clear b39
           refine take_put (i:=6) (d:=29) (v := ?_) rfl rfl (by kernel_rfl) (by kernel_rfl) (by kernel_rfl) (fun _ _ _ h=>h) (Or.inl ⟨by rfl,?_⟩) ?_
           rotate_left
           ·intro w;go_simp;with_reducible rfl
           conv =>
            arg 7
            simp only [List.setIfInBounds_toArray,List.set_cons_succ,List.set_cons_zero]
           refine wpAny_ready (rs := [0]) (by kernel_rfl) (by simp) ?_
           refine AllReady.cons rfl (fun K hK => ?_) (AllReady.nil)
           have b40:=M0.out.rb.cell 0
           go_simp
           refine hK _ _ ?_
           clear hK K
           clear b40
           refine wpAny_ready (rs := [1]) (by kernel_rfl) (by simp) ?_
           refine AllReady.cons rfl (fun K hK => ?_) (AllReady.nil)
           go_simp
           go_wp2_with (go_at_call 207;refine (HN.out _ M0.out.rd).mono ?_;rintro e wq41 ⟨hg41,v41,rfl,rfl,hr41⟩)
           have M41:=Lib.hid (M0.out.call hgl hTg hg41 hr41)
           clear hg41 hr41
           refine wpAny_ready (rs := [7]) (by kernel_rfl) (by simp) ?_
           refine AllReady.cons rfl (fun K hK => ?_) (AllReady.nil)
           go_simp
           go_wp2_with (go_at_call 208;refine (HLo.out _ M41.out.rd).mono ?_;rintro e wq42 ⟨hg42,v42,rfl,⟨os,hos,oo42⟩,hr42⟩)
           have oB:=M41.out.hb.lt
           have oM:=Lib.hid (M41.out.call hgl hTg hg42 hr42)
           obtain ⟨Ao,co,rfl,ro⟩:=oo42.rd
           have oO:=Lib.hid oo42
           clear hg42 hr42 oo42
           refine take_put (i:=8) (d:=31) (v := ?_) rfl rfl (by kernel_rfl) (by kernel_rfl) (by kernel_rfl) (fun _ _ _ h=>h) (Or.inl ⟨by rfl,?_⟩) ?_
           rotate_left
           ·intro w;go_simp;with_reducible rfl
           conv =>
            arg 7
            simp only [List.setIfInBounds_toArray,List.set_cons_succ,List.set_cons_zero]
           refine wpAny_ready (rs := [9]) (by kernel_rfl) (by simp) ?_
           refine AllReady.cons rfl (fun K hK => ?_) (AllReady.nil)
           have c43:=oM.out.hb.cell 1
           have z43:=oM.out.hb.free 1
           go_simp
           refine hK _ _ ?_
           clear hK K
           clear c43 z43
           refine wpAny_done (by kernel_rfl) ?_ _
           go_wp2_with fail
           go_meet
           exact R8.mk_ H8.out hos hgl hTl (fun _ e=>by cases e) (fun _ e=>by cases e) oM.out oO.out oB
         ·skip
          have b44:=M0.out.rb.cell 0
          go_simp
          refine hK _ _ ?_
          clear hK K
          clear b44
          refine take_put (i:=6) (d:=29) (v := ?_) rfl rfl (by kernel_rfl) (by kernel_rfl) (by kernel_rfl) (fun _ _ _ h=>h) (Or.inl ⟨by rfl,?_⟩) ?_
          rotate_left
          ·intro w;go_simp;with_reducible rfl
          conv =>
           arg 7
           simp only [List.setIfInBounds_toArray,List.set_cons_succ,List.set_cons_zero]
          refine wpAny_ready (rs := [0,3]) (by kernel_rfl) (by simp) ?_
          refine AllReady.cons rfl (fun K hK => ?_) (AllReady.cons rfl (fun K hK => ?_) (AllReady.nil))
          ·skip
           have b45:=M0.out.rb.cell 0
           go_simp
           refine hK _ _ ?_
           clear hK K
           clear b45
           refine wpAny_ready (rs := [1,3]) (by kernel_rfl) (by simp) ?_
           refine AllReady.cons rfl (fun K hK => ?_) (AllReady.cons rfl (fun K hK => ?_) (AllReady.nil))
           ·skip
            go_simp
            go_wp2_with (go_at_call 207;refine (HN.out _ M0.out.rd).mono ?_;rintro e wq46 ⟨hg46,v46,rfl,rfl,hr46⟩)
            have M46:=Lib.hid (M0.out.call hgl hTg hg46 hr46)
            clear hg46 hr46
            refine wpAny_ready (rs := [3]) (by kernel_rfl) (by simp) ?_
            refine AllReady.cons rfl (fun K hK => ?_) (AllReady.nil)
            have o47:=M46.out.hb.cell 0
            go_simp
            refine hK _ _ ?_
            clear hK K
            clear o47
            refine take_put (i:=4) (d:=27) (v := ?_) rfl rfl (by kernel_rfl) (by kernel_rfl) (by kernel_rfl) (fun _ _ _ h=>h) (Or.inl ⟨by rfl,?_⟩) ?_
            rotate_left
            ·intro w;go_simp;with_reducible rfl
            conv =>
             arg 7
             simp only [List.setIfInBounds_toArray,List.set_cons_succ,List.set_cons_zero]
            refine wpAny_ready (rs := [7]) (by kernel_rfl) (by simp) ?_
            refine AllReady.cons rfl (fun K hK => ?_) (AllReady.nil)
            go_simp
            go_wp2_with (go_at_call 208;refine (HLo.out _ M46.out.rd).mono ?_;rintro e wq48 ⟨hg48,v48,rfl,⟨os,hos,oo48⟩,hr48⟩)
            have oB:=M46.out.hb.lt
            have oM:=Lib.hid (M46.out.call hgl hTg hg48 hr48)
            obtain ⟨Ao,co,rfl,ro⟩:=oo48.rd
            have oO:=Lib.hid oo48
            clear hg48 hr48 oo48
            refine take_put (i:=8) (d:=31) (v := ?_) rfl rfl (by kernel_rfl) (by kernel_rfl) (by kernel_rfl) (fun _ _ _ h=>h) (Or.inl ⟨by rfl,?_⟩) ?_
            rotate_left
            ·intro w;go_simp;with_reducible rfl
            conv =>
             arg 7
             simp only [List.setIfInBounds_toArray,List.set_cons_succ,List.set_cons_zero]
            refine wpAny_ready (rs := [9]) (by kernel_rfl) (by simp) ?_
            refine AllReady.cons rfl (fun K hK => ?_) (AllReady.nil)
            have c49:=oM.out.hb.cell 1
            have z49:=oM.out.hb.free 1
            go_simp
            refine hK _ _ ?_
            clear hK K
            clear c49 z49
            refine wpAny_done (by kernel_rfl) ?_ _
            go_wp2_with fail
            go_meet
            exact R8.mk_ H8.out hos hgl hTl (fun _ e=>by cases e) (fun _ e=>by cases e) oM.out oO.out oB
           ·skip
            have o50:=M0.out.hb.cell 0
            go_simp
            refine hK _ _ ?_
            clear hK K
            clear o50
            refine take_put (i:=4) (d:=27) (v := ?_) rfl rfl (by kernel_rfl) (by kernel_rfl) (by kernel_rfl) (fun _ _ _ h=>h) (Or.inl ⟨by rfl,?_⟩) ?_
            rotate_left
            ·intro w;go_simp;with_reducible rfl
            conv =>
             arg 7
             simp only [List.setIfInBounds_toArray,List.set_cons_succ,List.set_cons_zero]
            refine wpAny_ready (rs := [1]) (by kernel_rfl) (by simp) ?_
            refine AllReady.cons rfl (fun K hK => ?_) (AllReady.nil)
            go_simp
            go_wp2_with (go_at_call 207;refine (HN.out _ M0.out.rd).mono ?_;rintro e wq51 ⟨hg51,v51,rfl,rfl,hr51⟩)
            have M51:=Lib.hid (M0.out.call hgl hTg hg51 hr51)
            clear hg51 hr51
            refine wpAny_ready (rs := [7]) (by kernel_rfl) (by simp) ?_
            refine AllReady.cons rfl (fun K hK => ?_) (AllReady.nil)
            go_simp
            go_wp2_with (go_at_call 208;refine (HLo.out _ M51.out.rd).mono ?_;rintro e wq52 ⟨hg52,v52,rfl,⟨os,hos,oo52⟩,hr52⟩)
            have oB:=M51.out.hb.lt
            have oM:=Lib.hid (M51.out.call hgl hTg hg52 hr52)
            obtain ⟨Ao,co,rfl,ro⟩:=oo52.rd
            have oO:=Lib.hid oo52
            clear hg52 hr52 oo52
            refine take_put (i:=8) (d:=31) (v := ?_) rfl rfl (by kernel_rfl) (by kernel_rfl) (by kernel_rfl) (fun _ _ _ h=>h) (Or.inl ⟨by rfl,?_⟩) ?_
            rotate_left
            ·intro w;go_simp;with_reducible rfl
            conv =>
             arg 7
             simp only [List.setIfInBounds_toArray,List.set_cons_succ,List.set_cons_zero]
            refine wpAny_ready (rs := [9]) (by kernel_rfl) (by simp) ?_
            refine AllReady.cons rfl (fun K hK => ?_) (AllReady.nil)
            have c53:=oM.out.hb.cell 1
            have z53:=oM.out.hb.free 1
            go_simp
            refine hK _ _ ?_
            clear hK K
            clear c53 z53
            refine wpAny_done (by kernel_rfl) ?_ _
            go_wp2_with fail
            go_meet
            exact R8.mk_ H8.out hos hgl hTl (fun _ e=>by cases e) (fun _ e=>by cases e) oM.out oO.out oB
          ·skip
           have o54:=M0.out.hb.cell 0
           go_simp
           refine hK _ _ ?_
           clear hK K
           clear o54
           refine take_put (i:=4) (d:=27) (v := ?_) rfl rfl (by kernel_rfl) (by kernel_rfl) (by kernel_rfl) (fun _ _ _ h=>h) (Or.inl ⟨by rfl,?_⟩) ?_
           rotate_left
           ·intro w;go_simp;with_reducible rfl
           conv =>
            arg 7
            simp only [List.setIfInBounds_toArray,List.set_cons_succ,List.set_cons_zero]
           refine wpAny_ready (rs := [0]) (by kernel_rfl) (by simp) ?_
           refine AllReady.cons rfl (fun K hK => ?_) (AllReady.nil)
           have b55:=M0.out.rb.cell 0
           go_simp
           refine hK _ _ ?_
           clear hK K
           clear b55
           refine wpAny_ready (rs := [1]) (by kernel_rfl) (by simp) ?_
           refine AllReady.cons rfl (fun K hK => ?_) (AllReady.nil)
           go_simp
           go_wp2_with (go_at_call 207;refine (HN.out _ M0.out.rd).mono ?_;rintro e wq56 ⟨hg56,v56,rfl,rfl,hr56⟩)
           have M56:=Lib.hid (M0.out.call hgl hTg hg56 hr56)
           clear hg56 hr56
           refine wpAny_ready (rs := [7]) (by kernel_rfl) (by simp) ?_
           refine AllReady.cons rfl (fun K hK => ?_) (AllReady.nil)
           go_simp
           go_wp2_with (go_at_call 208;refine (HLo.out _ M56.out.rd).mono ?_;rintro e wq57 ⟨hg57,v57,rfl,⟨os,hos,oo57⟩,hr57⟩)
           have oB:=M56.out.hb.lt
           have oM:=Lib.hid (M56.out.call hgl hTg hg57 hr57)
           obtain ⟨Ao,co,rfl,ro⟩:=oo57.rd
           have oO:=Lib.hid oo57
           clear hg57 hr57 oo57
           refine take_put (i:=8) (d:=31) (v := ?_) rfl rfl (by kernel_rfl) (by kernel_rfl) (by kernel_rfl) (fun _ _ _ h=>h) (Or.inl ⟨by rfl,?_⟩) ?_
           rotate_left
           ·intro w;go_simp;with_reducible rfl
           conv =>
            arg 7
            simp only [List.setIfInBounds_toArray,List.set_cons_succ,List.set_cons_zero]
           refine wpAny_ready (rs := [9]) (by kernel_rfl) (by simp) ?_
           refine AllReady.cons rfl (fun K hK => ?_) (AllReady.nil)
           have c58:=oM.out.hb.cell 1
           have z58:=oM.out.hb.free 1
           go_simp
           refine hK _ _ ?_
           clear hK K
           clear c58 z58
           refine wpAny_done (by kernel_rfl) ?_ _
           go_wp2_with fail
           go_meet
           exact R8.mk_ H8.out hos hgl hTl (fun _ e=>by cases e) (fun _ e=>by cases e) oM.out oO.out oB
         -- end 8 C
      case rest =>
       obtain ⟨os,r8,Ao,no,co,hp8,M8,O8⟩:=hcut
       clear M0
       obtain ⟨k1,k2,_,_,k5,_,_,k8⟩:=praw_ok hp8
       simp only [List.length_map] at k1 k2 k5 k8
       obtain ⟨A',c',eA,hrd⟩:=O8.rd
       injection eA with eA1 eA2 eA3
       subst eA1 eA2 eA3
       have HF:=Lib.hid (fun W (b:Below wc.heap.size wc W)=>freeBeside_any Ao os.length co (os.map (·.1)) mo W (hrd.below b) k1 (by omega) (by omega) (fun x hx=>(k8 x hx).2))
       have q0:=M8.hb.cell 0
       have q1:=M8.hb.cell 1
       have HM8:=Lib.hid M8
       have HO8:=Lib.hid O8
       have Hp8:=Lib.hid hp8
       have Hk8:=Lib.hid k8
       clear M8 O8 hp8 k8 hrd hmo
       go_wp2_with fail
       go_cut [37] (fun _ wd=>R9 w g r8 w3.heap.size od nx t0 t1 t2 t3 Ao co os wd)
       case first =>
        go_region_with (go_at_call 210;refine (HF.out _ (Below.refl _ _).drew).mono ?_;rintro e w10 ⟨v10,F',rfl,oF,bF,lF,uF⟩;obtain ⟨AF,cF,rfl,_,_,_⟩:=oF.shape (n:=F'.length) rfl;have B10:Below wc.heap.size wc w10:=(Below.refl _ _).drew.trans bF;have M10:=HM8.out.rise B10;have q7:=M10.hb.cell 7;have z7:=M10.hb.free 7)
        all_goals
        have HR:=Lib.hid (R9.mk_ Hmo.out k5 hgl hTl (fun _ e=>by cases e) M10 HM8.out.hb.lt B10 HO8.out oF lF uF)
        clear M10 B10 oF lF uF bF q7 z7
        go_wp2_with fail
        go_meet
        exact HR.out
       case rest =>
        obtain ⟨F',AF,cF,M9,O9,l9,u9⟩:=hcut
        clear HF q0 q1 HM8 HO8
        have hL9:LongH ⟨od,os.map (·.1),nx, [t0,t1,t2,t3],F'⟩:=⟨by simp only [List.length_map];omega,by simp only;omega,fun x hx=>⟨by have:=(Hk8.out x hx).1.2.2.2.1;omega,by have:=(Hk8.out x hx).1.2.2.2.2.1;omega⟩⟩
        have R:=checkH_any _ _ _ O9.rd hL9 M9.tab
        simp only [hval,hcs,tget,List.getD_cons_zero,List.getD_cons_succ] at R
        by_cases hR:RightH ⟨od,os.map (·.1),nx, [t0,t1,t2,t3],F'⟩
        ·rw [chkH_yes hR] at R
         have h0:=M9.hb.cell 0
         have h1:=M9.hb.cell 1
         have h2:=M9.hb.cell 2
         have h3:=M9.hb.cell 3
         have h4:=M9.hb.cell 4
         have h5:=M9.hb.cell 5
         have h6:=M9.hb.cell 6
         have h7:=M9.hb.cell 7
         have HM9:=Lib.hid M9
         have HO9:=Lib.hid O9
         have HR9:=Lib.hid hR
         clear M9 O9 hR u9 hL9
         go_wp2_with fail
         refine Calls.mono R ?_
         rintro e we ⟨rfl,be⟩
         have M9:=HM9.out.rise be
         have h0:=M9.hb.cell 0
         have h1:=M9.hb.cell 1
         have h2:=M9.hb.cell 2
         have h3:=M9.hb.cell 3
         have h4:=M9.hb.cell 4
         have h5:=M9.hb.cell 5
         have h6:=M9.hb.cell 6
         have h7:=M9.hb.cell 7
         have p0:we.cell? ⟨w.heap.size+1,0,none⟩=some (.int .i64 0):=M9.res.cell 0
         have z0:=M9.res.free 0
         have p1:we.cell? ⟨w.heap.size+1,1,none⟩=some (.slice none 0 0):=M9.res.cell 1
         have z1:=M9.res.free 1
         have p2:we.cell? ⟨w.heap.size+1,2,none⟩=some (.int .i64 0):=M9.res.cell 2
         have z2:=M9.res.free 2
         have p3:we.cell? ⟨w.heap.size+1,3,none⟩=some (.int .i64 0):=M9.res.cell 3
         have z3:=M9.res.free 3
         have p4:we.cell? ⟨w.heap.size+1,4,none⟩=some (.int .i64 0):=M9.res.cell 4
         have z4:=M9.res.free 4
         have p5:we.cell? ⟨w.heap.size+1,5,none⟩=some (.int .i64 0):=M9.res.cell 5
         have z5:=M9.res.free 5
         have p6:we.cell? ⟨w.heap.size+1,6,none⟩=some (.int .i64 0):=M9.res.cell 6
         have z6:=M9.res.free 6
         have p7:we.cell? ⟨w.heap.size+1,7,none⟩=some (.slice none 0 0):=M9.res.cell 7
         have z7:=M9.res.free 7
         have G:=sets8_grown we (w.heap.size+1) ⟨od,os.map (·.1),nx, [t0,t1,t2,t3],F'⟩ ⟨Ao,os.length,co,AF,F'.length,cF⟩
         have hlo:=M9.lt
         have hne2 : ¬ w3.heap.size=w.heap.size+1:=by omega
         have hne3 : ¬ w.heap.size+1=w3.heap.size:=by omega
         have KF:=sets8_whole M9.res ⟨od,os.map (·.1),nx, [t0,t1,t2,t3],F'⟩ ⟨Ao,os.length,co,AF,F'.length,cF⟩
         have RF:=M9.rd.apart (M9.res.noByte zcs_nob) (by omega:g≠w.heap.size+1) G
         have GF:=sets8_new M9.gr (Nat.le_succ _) ⟨od,os.map (·.1),nx, [t0,t1,t2,t3],F'⟩ ⟨Ao,os.length,co,AF,F'.length,cF⟩
         have OF:=((HO9.out.below be).grownI G (by omega)).mono (base':=w.heap.size) (by omega)
         have HFin:=Lib.hid (And.intro KF (And.intro GF (And.intro OF RF)))
         clear KF GF OF RF G M9 R be hlo
         unfold sets8 at HFin
         simp only [hcs,tget,List.getD_cons_zero,List.getD_cons_succ] at HFin
         go_wp2
         refine bodyPost_ret (results_c1 rfl _ _ _ _ rfl HFin.out.1 Tryz.underlying28 (by kernel_rfl)) rfl ?_
         exact ⟨HFin.out.2.1, .inl ⟨_,⟨Ao,os.length,co,AF,F'.length,cF⟩,os,r8,_,rfl,HFin.out.2.2.1,HFin.out.2.2.2,Hp8.out,HR9.out,rfl⟩⟩
        ·rw [chkH_no hR] at R
         have Hbad:=Lib.hid (show praw gp l=none ∨ ∃ R r,praw gp l=some (R,r) ∧ ∀ F, ¬ RightH { R with fr:=F } from .inr ⟨_,_,Hp8.out,fun F hF=>hR (by
          have:=u9 F hF.freeOf
          rw [this]
          exact hF)⟩)
         have h0:=M9.hb.cell 0
         have h1:=M9.hb.cell 1
         have h2:=M9.hb.cell 2
         have h3:=M9.hb.cell 3
         have h4:=M9.hb.cell 4
         have h5:=M9.hb.cell 5
         have h6:=M9.hb.cell 6
         have h7:=M9.hb.cell 7
         have HM9:=Lib.hid M9
         clear M9 O9 hR u9 hL9
         go_wp2_with fail
         refine Calls.mono R ?_
         rintro e we ⟨rfl,be⟩
         clear h0 h1 h2 h3 h4 h5 h6 h7 R
         have GF:=Lib.hid (HM9.out.rise be).gr
         go_wp2_with fail
         refine (giveUp_any _).mono ?_
         rintro e wf ⟨rfl,rfl⟩
         go_wp2
         exact ⟨rfl,GF.out, .inr ⟨rfl,Hbad.out⟩⟩
  ·have e2:newE od=1:=if_neg hod
   rw [e2]
   have Hst:=Lib.hid (show praw gp l=none from by
    unfold praw
    rw [H1.out,Option.bind_some]
    have hg : ∀ n,gp od n=false:=fun n=>by unfold gp;rw [decide_eq_false hod];rfl
    simp only
    cases pnum l1 with
    | none=>rfl
    | some a =>
     simp only [Option.bind_some]
     cases prep pnum 4 a.2 with
     | none=>rfl
     | some b =>
      simp only [Option.bind_some]
      cases pnum b.2 with
      | none=>rfl
      | some c=>simp only [Option.bind_some];rw [hg];rfl)
   clear KB2 KO2 T2 R2 O2 b2
   go_wp2_with fail
   refine (mustHeap_no _ s 1 w2 rfl).mono ?_
   rintro e w3 ⟨rfl,b3⟩
   go_wp2
   exact ⟨rfl,grown_trans G2.out (grown_below b3 _), .inr ⟨rfl, .inl Hst.out⟩⟩
end Go.Proofs.YtcodpnbemdflcaaGreatDoor

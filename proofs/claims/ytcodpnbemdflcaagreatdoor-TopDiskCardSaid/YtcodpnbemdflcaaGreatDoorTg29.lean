/-
  Two laws for a region that draws its order, said over a frame that is written out. Plain lemmas over any program.
  A list of ints, or of numbers, that a reader reads: the contract of list.
  A reader reads an object.
  Rows of structs that are made at once and then stored one by one. Plain lemmas over any program.
  A list of objects that a reader reads: the contract of list.
  The free blocks between two places: fill.
  The free blocks beside objects: freeBeside.
  The free blocks beside objects: the contract of freeBeside.
-/
import Derived.Test.YtcodpnbemdflcaaGreatDoorTg1
import Derived.Test.YtcodpnbemdflcaaGreatDoorTg27
import Derived.Test.YtcodpnbemdflcaaGreatDoorTg18
import Derived.Laws.MakeOwn
import Derived.Test.YtcodpnbemdflcaaGreatDoorTg19
namespace Go.Proofs.YtcodpnbemdflcaaGreatDoor
open Go.RowKit
theorem take_put {P:Program} {md:Region.Mode} {ops:Array Oper} {Q:Exit→Act→World→Prop} {i d:Nat} {oi:Oper} {v:Value} {fuel:Nat} {listed:Array Bool} {T:Array Value} {D:List Deferred} {w:World} (hi:ops[i]? = some oi) (hd:oi.dst=some d)
  (hs:Region.noSelect ops=true) (hf:Region.free md ops listed i=true) (hr:(Region.ready md ops listed).contains i=true)
  (hQ : ∀ c a w,Q (.panic c) (a.put oi.dst v) w→Q (.panic c) a w) (hy:Yields P ops oi v ⟨T,D⟩)
  (h:wpAny P md ops Q fuel (listed.setIfInBounds i true) ⟨T.setIfInBounds d v,D⟩ w):wpAny P md ops Q (fuel+1) listed ⟨T,D⟩ w :=
 wpAny_take hi hs hf hr hQ hy (by rw [hd];exact h)
end Go.Proofs.YtcodpnbemdflcaaGreatDoor
namespace Go.Proofs.YtcodpnbemdflcaaGreatDoor
open Go.RowKit
theorem ivs_noByte (vs:List Int) (m:Nat) : ∀ u ∈ ivs vs++reps m (.int .i64 0), ∀ x,u ≠ .int .u8 x:=by
 intro u hu x e
 subst e
 rcases List.mem_append.1 hu with h | h
 ·unfold ivs at h
  obtain ⟨y,_,h⟩:=List.mem_map.1 h
  cases h
 ·have:=List.eq_of_mem_replicate h
  cases this
def ListRel (p:Prs Int) (w:World) (g n:Nat) (l:List UInt8) (i:Value) (wr:World):Prop :=
 ∃ (k:Nat) (vs:List Int) (r:List UInt8),k≤n∧i = .int .i64 (k:Int)∧prep p k l=some (vs,r)∧Rdr wr g r∧Whole wr w.heap.size 3 (ivs vs++reps (n - k) (.int .i64 0))∧w.grownBy wr (some g)∧w.heap.size < wr.heap.size
set_option maxHeartbeats 2000000 in
theorem listInt_any (F:FuncId) (p:Prs Int) (hF:F=212∨F=207) (hp : ∀ g l w,Rdr w g l→Calls Tryz.prog F #[rdv g] w (Reads w g (p l) fun n v _=>v = .int .i64 n)) (n most:Nat) (hm:most≤1000) (g:Nat) (l:List UInt8) (w:World) (hr:Rdr w g l) :
  Calls Tryz.prog 244 #[.int .i64 (n:Int), .int .i64 (most:Int), .func (.func F) #[rdv g] #[]] w (Reads w g (if most < n then none else prep p n l) fun vs v w'=>OwnV 3 w' w.heap.size v (ivs vs)):=by
 have Hp:=Lib.hid hp
 by_cases hn:most < n
 ·rw [if_pos hn]
  rcases hF with rfl | rfl
  all_goals
   go_enter Tryz.func244,Tryz.ntmps244
   go_wp2_with fail
   refine (giveUp_any _).mono ?_
   rintro e w' ⟨rfl,rfl⟩
   go_wp2
   exact ⟨rfl,grown_refl _ _,rfl⟩
 ·rw [if_neg hn]
  have hn2:n≤1000:=by omega
  have hmk:=run_makeV (P:=Tryz.prog) Tryz.underlying58 Tryz.infoInt rfl n (by omega) (by omega)
  have K0:=Lib.hid (Whole.new w (reps n (.int .i64 0)).toArray 3)
  have HR:=Lib.hid (hr.alloc (.cells (reps n (.int .i64 0)).toArray 3))
  have G0:=Lib.hid (grown_below ((Below.refl w.heap.size w).alloc (Nat.le_refl _) (.cells (reps n (.int .i64 0)).toArray 3)) (some g))
  rcases hF with rfl | rfl
  all_goals
   go_enter Tryz.func244,Tryz.ntmps244
   go_wp2
   clear hmk
   go_loopw [17] (ListRel p w g n l) (fun i _=>n - (intOf i).toNat)
   case atStart=>exact ⟨0, [],l,Nat.zero_le _,rfl,rfl,HR.out,K0.out,G0.out,by simp⟩
   case round =>
    obtain ⟨k,vs,r,hk,rfl,hpr,hrd,hw,hgr,hsz⟩:=hrel
    have hlen:=prep_len hpr
    by_cases hlt:k < n
    ·have hki:(k:Int) < (n:Int):=by omega
     have Hw:=Lib.hid hw
     have Hg:=Lib.hid hgr
     have Hs:=Lib.hid hsz
     have Hpr:=Lib.hid hpr
     clear hw hgr hsz hpr
     go_wp2_with fail
     refine (Hp.out g r wr hrd).mono ?_
     rintro e w' ⟨hg2,hm2⟩
     cases hq:p r with
     | none =>
      rw [hq] at hm2
      subst hm2
      have hst:=prep_stop Hpr.out hq hlt
      clear hq
      go_wp2
      exact ⟨rfl,grown_trans Hg.out hg2,by rw [hst]⟩
     | some q =>
      obtain ⟨x,r'⟩:=q
      rw [hq] at hm2
      obtain ⟨v,rfl,rfl,hr2⟩:=hm2
      have Hq:=Lib.hid (prep_step Hpr.out hq)
      have hne:w.heap.size≠g:=by have:=hr.lt;omega
      have W2:=Hw.out.grown hg2 hne
      have hk1:n - k=(n - (k+1))+1:=by omega
      rw [hk1] at W2
      have c0:=W2.cell k
      rw [List.getElem?_append_right (by rw [ivs_length];omega),ivs_length,hlen,Nat.sub_self] at c0
      have c1:w'.cell? ⟨w.heap.size,k,none⟩=some (.int .i64 0):=c0
      have z0:=W2.free k
      have W3:=Lib.hid (W2.setAt (u := .int .i64 x) (k:=k) (by rw [ivs_length];exact hlen))
      have R3:=Lib.hid (hr2.apart (W2.noByte (ivs_noByte _ _)) hne.symm (grown_set w' w.heap.size k (.int .i64 x)))
      have G3:=Lib.hid (grown_new (grown_trans Hg.out hg2) (Nat.le_refl _) k (.int .i64 x))
      have S3:=Lib.hid (show w.heap.size < (w'.setCell ⟨w.heap.size,k,none⟩ (.int .i64 x)).heap.size from by have:=hg2.size;have:=Hs.out;simp [World.setCell];omega)
      clear hq hk1 c0 W2 hr2 hg2 hlen hrd hne
      go_wp2
      go_roundw
      case rel =>
       refine ⟨k+1,vs ++ [x],r',by omega,by go_num,Hq.out,R3.out,?_,G3.out,S3.out⟩
       have:=W3.out
       unfold ivs at this ⊢
       rw [List.map_append]
       exact this
      case measure=>simp [intOf];omega
    ·obtain rfl:k=n:=by omega
     rw [Nat.sub_self] at hw
     have Hf:=Lib.hid (show OwnV 3 wr w.heap.size (.slice (some ⟨w.heap.size,0,none⟩) (ivs vs).length (ivs vs).length) (ivs vs) from by
      have h1:Whole wr w.heap.size 3 (ivs vs):=by simpa [reps] using hw
      exact h1.own (Nat.le_refl _) (by rw [ivs_length,hlen];simp only [maxLen];omega))
     rw [ivs_length,hlen] at Hf
     have Hpr:=Lib.hid hpr
     have Hg:=Lib.hid hgr
     have Hr:=Lib.hid hrd
     clear hw hpr hgr hrd hlen hsz
     go_wp2
     go_ret
     exact Reads.some_ Hpr.out Hg.out Hf.out Hr.out
end Go.Proofs.YtcodpnbemdflcaaGreatDoor
namespace Go.Proofs.YtcodpnbemdflcaaGreatDoor
open Go.RowKit
theorem pobj_1 {l:List UInt8} (h:pnum l=none):pobj l=none:=by unfold pobj;rw [h];rfl
theorem pobj_2 {l l1:List UInt8} {hd:Int} (h:pnum l=some (hd,l1)) (h2:pnum l1=none):pobj l=none:=by unfold pobj;rw [h,Option.bind_some];simp only;rw [h2];rfl
theorem pobj_3 {l l1 l2:List UInt8} {hd a:Int} (h:pnum l=some (hd,l1)) (h2:pnum l1=some (a,l2)) (h3:pnum l2=none):pobj l=none:=by
 unfold pobj;rw [h,Option.bind_some];simp only;rw [h2,Option.bind_some];simp only;rw [h3];rfl
theorem pobj_4 {l l1 l2 l3:List UInt8} {hd a w:Int} (h:pnum l=some (hd,l1)) (h2:pnum l1=some (a,l2)) (h3:pnum l2=some (w,l3)) (h4:pnum l3=none):pobj l=none:=by
 unfold pobj;rw [h,Option.bind_some];simp only;rw [h2,Option.bind_some];simp only;rw [h3,Option.bind_some];simp only;rw [h4];rfl
theorem pobj_5 {l l1 l2 l3 l4:List UInt8} {hd a w k:Int} (h:pnum l=some (hd,l1)) (h2:pnum l1=some (a,l2)) (h3:pnum l2=some (w,l3)) (h4:pnum l3=some (k,l4)):pobj l=pobj2 hd a w k l4:=by
 unfold pobj;rw [h,Option.bind_some];simp only;rw [h2,Option.bind_some];simp only;rw [h3,Option.bind_some];simp only;rw [h4];rfl
theorem pobj2_1 {hd a:Int} {w k:Nat} {l:List UInt8} (h:(if 32 < w then none else prep pint w l)=none):pobj2 hd a (w:Int) k l=none:=by
 unfold pobj2
 by_cases h1:(32:Int) < (w:Int)
 ·rw [if_pos h1]
 ·rw [if_neg (by omega)] at h
  rw [if_neg h1,Int.toNat_natCast,h]
  rfl
theorem pobj2_2 {hd a:Int} {w k:Nat} {l l5:List UInt8} {ws:List Int} (h:(if 32 < w then none else prep pint w l)=some (ws,l5)) (h2:(if 16 < k then none else prep pnum k l5)=none):pobj2 hd a (w:Int) (k:Int) l=none:=by
 unfold pobj2
 split at h
 ·cases h
 ·rw [if_neg (by omega),Int.toNat_natCast,h,Option.bind_some]
  simp only
  by_cases h1:(16:Int) < (k:Int)
  ·rw [if_pos h1]
  ·rw [if_neg (by omega)] at h2
   rw [if_neg h1,Int.toNat_natCast,h2]
   rfl
theorem pobj2_3 {hd a:Int} {w k:Nat} {l l5 l6:List UInt8} {ws ls:List Int} (h:(if 32 < w then none else prep pint w l)=some (ws,l5)) (h2:(if 16 < k then none else prep pnum k l5)=some (ls,l6)):pobj2 hd a (w:Int) (k:Int) l=some (⟨hd,(a,needI w k),ws,ls⟩,l6):=by
 unfold pobj2
 split at h
 ·cases h
 ·split at h2
  ·cases h2
  ·rw [if_neg (by omega),Int.toNat_natCast,h,Option.bind_some]
   simp only
   rw [if_neg (by omega),Int.toNat_natCast,h2]
   rfl
structure ObjMem (w:World) (g:Nat) (l:List UInt8) (o:Nat) (W:World) (c0 c1 c2 c3 c4:Value):Prop where
 rb:Whole W w.heap.size 236 [.pointer (some ⟨g,0,none⟩)]
 res:Whole W (w.heap.size+1) 60 [.int .i64 0, .int .i64 0, .int .i64 0, .slice none 0 0, .slice none 0 0]
 ob:Whole W o 60 [c0,c1,c2,c3,c4]
 rd:Rdr W g l
 gr:w.grownBy W (some g)
 lt:w.heap.size+1 < o
theorem ObjMem.call {w W W2:World} {g o:Nat} {l l2:List UInt8} {c0 c1 c2 c3 c4:Value} (h:ObjMem w g l o W c0 c1 c2 c3 c4) (hg:g < w.heap.size) (k:W.grownBy W2 (some g)) (r:Rdr W2 g l2):ObjMem w g l2 o W2 c0 c1 c2 c3 c4:=by
 have:=h.lt
 exact ⟨h.rb.grown k (by omega),h.res.grown k (by omega),h.ob.grown k (by omega),r,grown_trans h.gr k,h.lt⟩
def nob (v:Value):Prop := ∀ x,v ≠ .int .u8 x
theorem nob_int (x:Int):nob (.int .i64 x):=fun y e=>by cases e
theorem nob_slice (A:Option Addr) (n c:Nat):nob (.slice A n c):=fun y e=>by cases e
theorem ObjMem.set {w W:World} {g o:Nat} {l:List UInt8} {c0 c1 c2 c3 c4:Value} (h:ObjMem w g l o W c0 c1 c2 c3 c4) (hg:g < w.heap.size) (hn:nob c0∧nob c1∧nob c2∧nob c3∧nob c4) (j:Nat) (v d0 d1 d2 d3 d4:Value) (hs:([c0,c1,c2,c3,c4]:List Value).set j v = [d0,d1,d2,d3,d4]):ObjMem w g l o (W.setCell ⟨o,j,none⟩ v) d0 d1 d2 d3 d4:=by
 have hl:=h.lt
 have gs:=grown_set W o j v
 refine ⟨h.rb.grown gs (by omega),h.res.grown gs (by omega),hs ▸ h.ob.set j v,h.rd.apart (h.ob.noByte ?_) (by omega) gs,grown_new h.gr (by omega) j v,hl⟩
 intro u hu x
 simp only [List.mem_cons,List.not_mem_nil,or_false] at hu
 rcases hu with rfl | rfl | rfl | rfl | rfl
 ·exact hn.1 x
 ·exact hn.2.1 x
 ·exact hn.2.2.1 x
 ·exact hn.2.2.2.1 x
 ·exact hn.2.2.2.2 x
set_option maxHeartbeats 2000000 in
theorem object_any (g:Nat) (l:List UInt8) (w:World) (hr:Rdr w g l) :
  Calls Tryz.prog 209 #[rdv g] w (Reads w g (pobj l) fun x v w' => ∃ s:OSl,v = .agg (oc (x,s)).toArray∧OwnV 3 w' w.heap.size s.wv (ivs x.ws)∧OwnV 3 w' w.heap.size s.lv (ivs x.ls) ∧ ∀ k,s.wv.ownBlock=some k→s.lv.ownBlock≠some k):=by
 have hgl:=hr.lt
 have hmf : ∀ (fn:Fn) (first cap:Array Value) (w:World),(Instr.makeFunc fn first cap).run Tryz.prog w = .ok (.func fn first cap) w:=fun _ _ _ _=>rfl
 have Hmf:=Lib.hid hmf
 clear hmf
 unfold rdv
 go_enter Tryz.func209,Tryz.ntmps209
 go_wp2_with fail
 have KB:=(Whole.new w #[.pointer (some ⟨g,0,none⟩)] 236).alloc (.cells #[.int .i64 0, .int .i64 0, .int .i64 0, .slice none 0 0, .slice none 0 0] 60)
 have KO:=Whole.new (w.alloc (.cells #[.pointer (some ⟨g,0,none⟩)] 236)) #[.int .i64 0, .int .i64 0, .int .i64 0, .slice none 0 0, .slice none 0 0] 60
 rw [show (w.alloc (.cells #[.pointer (some ⟨g,0,none⟩)] 236)).heap.size=w.heap.size+1 by simp] at KO
 have R0:=(hr.alloc (.cells #[.pointer (some ⟨g,0,none⟩)] 236)).alloc (.cells #[.int .i64 0, .int .i64 0, .int .i64 0, .slice none 0 0, .slice none 0 0] 60)
 have G0:=grown_below (((Below.refl w.heap.size w).alloc (Nat.le_refl _) (.cells #[.pointer (some ⟨g,0,none⟩)] 236)).alloc (by simp) (.cells #[.int .i64 0, .int .i64 0, .int .i64 0, .slice none 0 0, .slice none 0 0] 60)) (some g)
 generalize (w.alloc (.cells #[.pointer (some ⟨g,0,none⟩)] 236)).alloc (.cells #[.int .i64 0, .int .i64 0, .int .i64 0, .slice none 0 0, .slice none 0 0] 60)=W at KB KO R0 G0 ⊢
 refine (rdNumber_any g l W R0).mono ?_
 rintro e w1 ⟨hg1,hm⟩
 have KB1:=KB.grown hg1 (by omega)
 have KO1:=KO.grown hg1 (by omega)
 have G1:=Lib.hid (grown_trans G0 hg1)
 cases hq1:pnum l with
 | none =>
  rw [hq1] at hm
  subst hm
  have Hst:=Lib.hid (pobj_1 hq1)
  clear hq1 KB KO R0 G0 KB1 KO1 hg1
  go_wp2
  exact ⟨rfl,G1.out,by rw [Hst.out]⟩
 | some q =>
  obtain ⟨hd,l1⟩:=q
  rw [hq1] at hm
  obtain ⟨v,rfl,rfl,hr1⟩:=hm
  have H1:=Lib.hid hq1
  have M1:ObjMem w g l1 w1.heap.size (w1.alloc (.cells #[.int .i64 hd, .int .i64 0, .int .i64 0, .slice none 0 0, .slice none 0 0] 60)) (.int .i64 hd) (.int .i64 0) (.int .i64 0) (.slice none 0 0) (.slice none 0 0) :=
   ⟨KB1.alloc _,KO1.alloc _,Whole.new w1 #[.int .i64 hd, .int .i64 0, .int .i64 0, .slice none 0 0, .slice none 0 0] 60,hr1.alloc _,grown_trans G1.out (grown_below ((Below.refl _ _).alloc (Nat.le_refl _) _) _),KO1.lt⟩
  have b0:=KB1.cell 0
  have hsz:=KB1.lt
  clear hq1 KB KO R0 G0 KB1 KO1 hg1 hr1 G1
  dsimp only
  go_wp2_with fail
  generalize w1.alloc (.cells #[.int .i64 hd, .int .i64 0, .int .i64 0, .slice none 0 0, .slice none 0 0] 60)=W1 at M1 ⊢
  clear b0
  refine (rdNumber_any g l1 W1 M1.rd).mono ?_
  rintro e w2 ⟨hg2,hm⟩
  cases hq2:pnum l1 with
  | none =>
   rw [hq2] at hm
   subst hm
   have Hst:=Lib.hid (pobj_2 H1.out hq2)
   have G2:=Lib.hid (grown_trans M1.gr hg2)
   clear hq2 M1 hg2
   go_wp2
   exact ⟨rfl,G2.out,by rw [Hst.out]⟩
  | some q =>
   obtain ⟨a,l2⟩:=q
   rw [hq2] at hm
   obtain ⟨v,rfl,rfl,hr2⟩:=hm
   have H2:=Lib.hid hq2
   have M2:=M1.call hgl hg2 hr2
   have M3:=Lib.hid (M2.set hgl ⟨nob_int _,nob_int _,nob_int _,nob_slice _ _ _,nob_slice _ _ _⟩ 1 (.int .i64 a) (.int .i64 hd) (.int .i64 a) (.int .i64 0) (.slice none 0 0) (.slice none 0 0) rfl)
   have b0:=M2.rb.cell 0
   have c1:=M2.ob.cell 1
   have z1:=M2.ob.free 1
   have hne : ¬ w.heap.size=w1.heap.size:=by omega
   clear hq2 M1 M2 hg2 hr2
   dsimp only
   go_wp2_with fail
   generalize w2.setCell ⟨w1.heap.size,1,none⟩ (.int .i64 a)=W2 at M3 ⊢
   clear b0 c1 z1
   refine (rdNumber_any g l2 W2 M3.out.rd).mono ?_
   rintro e w3 ⟨hg3,hm⟩
   cases hq3:pnum l2 with
   | none =>
    rw [hq3] at hm
    subst hm
    have Hst:=Lib.hid (pobj_3 H1.out H2.out hq3)
    have G3:=Lib.hid (grown_trans M3.out.gr hg3)
    clear hq3 M3 hg3
    go_wp2
    exact ⟨rfl,G3.out,by rw [Hst.out]⟩
   | some q =>
    obtain ⟨ww,l3⟩:=q
    rw [hq3] at hm
    obtain ⟨v,rfl,rfl,hr3⟩:=hm
    have H3:=Lib.hid hq3
    have M4:=M3.out.call hgl hg3 hr3
    have HM4:=Lib.hid M4
    have b0:=M4.rb.cell 0
    clear hq3 M3 hg3 hr3 M4
    dsimp only
    go_wp2_with fail
    clear b0
    refine (rdNumber_any g l3 w3 HM4.out.rd).mono ?_
    rintro e w4 ⟨hg4,hm⟩
    cases hq4:pnum l3 with
    | none =>
     rw [hq4] at hm
     subst hm
     have Hst:=Lib.hid (pobj_4 H1.out H2.out H3.out hq4)
     have G4:=Lib.hid (grown_trans HM4.out.gr hg4)
     clear hq4 HM4 hg4
     go_wp2
     exact ⟨rfl,G4.out,by rw [Hst.out]⟩
    | some q =>
     obtain ⟨kk,l4⟩:=q
     rw [hq4] at hm
     obtain ⟨v,rfl,rfl,hr4⟩:=hm
     have hp5:=pobj_5 H1.out H2.out H3.out hq4
     have hw0:=(pnum_codec.sound _ _ _ H3.out).1.1
     have hk0:=(pnum_codec.sound _ _ _ hq4).1.1
     obtain ⟨wn,rfl⟩:=Int.eq_ofNat_of_zero_le hw0
     obtain ⟨kn,rfl⟩:=Int.eq_ofNat_of_zero_le hk0
     have H5:=Lib.hid hp5
     have M5:=HM4.out.call hgl hg4 hr4
     have HM5:=Lib.hid M5
     have b0:=M5.rb.cell 0
     have hmf:=Hmf.out
     clear hq4 HM4 hg4 hr4 M5 hp5 hw0 hk0 H1 H2 H3
     dsimp only
     go_wp2_with fail
     clear b0 hmf
     refine (listInt_any _ pint (.inl rfl) rdInt_any wn 32 (by omega) g l4 w4 HM5.out.rd).mono ?_
     rintro e w5 ⟨hg5,hm⟩
     cases hq5:(if 32 < wn then none else prep pint wn l4) with
     | none =>
      rw [hq5] at hm
      subst hm
      have Hst:=Lib.hid (H5.out.trans (pobj2_1 hq5))
      have G5:=Lib.hid (grown_trans HM5.out.gr hg5)
      clear hq5 HM5 hg5
      go_wp2
      exact ⟨rfl,G5.out,by rw [Hst.out]⟩
     | some q =>
      obtain ⟨ws,l5⟩:=q
      rw [hq5] at hm
      obtain ⟨v,rfl,ho5,hr5⟩:=hm
      obtain ⟨Aw,cw,rfl,hcw,hmw,hrw⟩:=ho5.shape (n:=ws.length) (by rw [ivs_length])
      have H6:=Lib.hid hq5
      have M6:=HM5.out.call hgl hg5 hr5
      have M7:=Lib.hid (M6.set hgl ⟨nob_int _,nob_int _,nob_int _,nob_slice _ _ _,nob_slice _ _ _⟩ 3 (.slice Aw ws.length cw) (.int .i64 hd) (.int .i64 a) (.int .i64 0) (.slice Aw ws.length cw) (.slice none 0 0) rfl)
      have hs4:=HM5.out.ob.lt
      have O7:=Lib.hid (ho5.grown (grown_set w5 w1.heap.size 3 (.slice Aw ws.length cw)) (fun e=>by have:=(ho5.lt _ e).1;omega))
      have b0:=M6.rb.cell 0
      have c3:=M6.ob.cell 3
      have z3:=M6.ob.free 3
      have hmf:=Hmf.out
      clear hq5 HM5 hg5 hr5 M6 hrw ho5
      generalize hnw:ws.length=nw at *
      have Hnw:=Lib.hid hnw
      clear hnw
      dsimp only
      go_wp2_with fail
      generalize w5.setCell ⟨w1.heap.size,3,none⟩ (.slice Aw nw cw)=W5 at M7 O7 ⊢
      clear b0 c3 z3 hmf
      refine (listInt_any _ pnum (.inr rfl) rdNumber_any kn 16 (by omega) g l5 W5 M7.out.rd).mono ?_
      rintro e w6 ⟨hg6,hm⟩
      cases hq6:(if 16 < kn then none else prep pnum kn l5) with
      | none =>
       rw [hq6] at hm
       subst hm
       have Hst:=Lib.hid (H5.out.trans (pobj2_2 H6.out hq6))
       have G6:=Lib.hid (grown_trans M7.out.gr hg6)
       clear hq6 M7 hg6
       go_wp2
       exact ⟨rfl,G6.out,by rw [Hst.out]⟩
      | some q =>
       obtain ⟨ls,l6⟩:=q
       rw [hq6] at hm
       obtain ⟨v,rfl,ho6,hr6⟩:=hm
       obtain ⟨nl,hnl⟩ : ∃ nl,ls.length=nl:=⟨_,rfl⟩
       obtain ⟨Al,cl,rfl,hcl,hml,hrl⟩:=ho6.shape (n:=nl) (by rw [ivs_length];exact hnl)
       have Hf:=Lib.hid (H5.out.trans (pobj2_3 H6.out hq6))
       have M8:=M7.out.call hgl hg6 hr6
       have hs5:=M7.out.ob.lt
       have hs6:W5.heap.size≤w6.heap.size:=hg6.size
       have hdis : ∀ k,(Value.slice Aw nw cw).ownBlock=some k→(Value.slice Al nl cl).ownBlock≠some k:=fun k e1 e2=>by
        have h1:=(O7.out.lt k e1).2
        have h2:=(ho6.lt k e2).1
        omega
       have hwb : ∀ k,(Value.slice Aw nw cw).ownBlock=some k→w4.heap.size≤k:=fun k e1=>(O7.out.lt k e1).1
       have O8:=O7.out.grown hg6 (fun e=>by have:=hwb _ e;omega)
       have O9:=Lib.hid (O8.grown (grown_set w6 w1.heap.size 4 (.slice Al nl cl)) (fun e=>by have:=hwb _ e;omega))
       have P9:=Lib.hid (ho6.grown (grown_set w6 w1.heap.size 4 (.slice Al nl cl)) (fun e=>by have:=(ho6.lt _ e).1;omega))
       have M9:=Lib.hid (M8.set hgl ⟨nob_int _,nob_int _,nob_int _,nob_slice _ _ _,nob_slice _ _ _⟩ 4 (.slice Al nl cl) (.int .i64 hd) (.int .i64 a) (.int .i64 0) (.slice Aw nw cw) (.slice Al nl cl) rfl)
       have c4:=M8.ob.cell 4
       have z4:=M8.ob.free 4
       have Hd:=Lib.hid hdis
       have Hwb:=Lib.hid hwb
       clear hq6 M7 hg6 hr6 M8 hrl ho6 O7 O8 H5 H6 hdis hwb hnl
       dsimp only
       go_wp2_with fail
       generalize w6.setCell ⟨w1.heap.size,4,none⟩ (.slice Al nl cl)=W6 at M9 O9 P9 ⊢
       clear c4 z4
       refine (need_any wn kn W6).mono ?_
       rintro e W6' ⟨rfl,rfl⟩
       have M10:=Lib.hid (M9.out.set hgl ⟨nob_int _,nob_int _,nob_int _,nob_slice _ _ _,nob_slice _ _ _⟩ 2 (.int .i64 (needI wn kn)) (.int .i64 hd) (.int .i64 a) (.int .i64 (needI wn kn)) (.slice Aw nw cw) (.slice Al nl cl) rfl)
       have o0:=M9.out.ob.cell 0
       have o1:=M9.out.ob.cell 1
       have o2:=M9.out.ob.cell 2
       have o3:=M9.out.ob.cell 3
       have o4:=M9.out.ob.cell 4
       have z2:=M9.out.ob.free 2
       have p0:=M9.out.res.cell 0
       have p1:=M9.out.res.cell 1
       have p2:=M9.out.res.cell 2
       have p3:=M9.out.res.cell 3
       have p4:=M9.out.res.cell 4
       have y0:=M9.out.res.free 0
       have y1:=M9.out.res.free 1
       have y2:=M9.out.res.free 2
       have y3:=M9.out.res.free 3
       have y4:=M9.out.res.free 4
       have hlo:=M9.out.lt
       have hne2 : ¬ w1.heap.size=w.heap.size+1:=by omega
       have hne3 : ¬ w.heap.size+1=w1.heap.size:=by omega
       have KF:=(((((M10.out.res.set 0 (.int .i64 hd)).set 1 (.int .i64 a)).set 2 (.int .i64 (needI wn kn))).set 3 (.slice Aw nw cw)).set 4 (.slice Al nl cl))
       have GF:=(grown_new (grown_new (grown_new (grown_new (grown_new M10.out.gr (Nat.le_succ _) 0 (.int .i64 hd)) (Nat.le_succ _) 1 (.int .i64 a)) (Nat.le_succ _) 2 (.int .i64 (needI wn kn))) (Nat.le_succ _) 3 (.slice Aw nw cw)) (Nat.le_succ _) 4 (.slice Al nl cl))
       have g5:=(grown_trans (grown_trans (grown_trans (grown_trans (grown_set (W6.setCell ⟨w1.heap.size,2,none⟩ (.int .i64 (needI wn kn))) (w.heap.size+1) 0 (.int .i64 hd)) (grown_set _ (w.heap.size+1) 1 (.int .i64 a))) (grown_set _ (w.heap.size+1) 2 (.int .i64 (needI wn kn)))) (grown_set _ (w.heap.size+1) 3 (.slice Aw nw cw))) (grown_set _ (w.heap.size+1) 4 (.slice Al nl cl)))
       have RF:=M10.out.rd.apart (M10.out.res.noByte (by
        intro u hu x
        simp only [List.mem_cons,List.not_mem_nil,or_false] at hu
        rcases hu with rfl | rfl | rfl | rfl | rfl
        ·exact nob_int 0 x
        ·exact nob_int 0 x
        ·exact nob_int 0 x
        ·exact nob_slice _ _ _ x
        ·exact nob_slice _ _ _ x)) (by omega:g≠w.heap.size+1) g5
       have OW:=((O9.out.grown (grown_set W6 w1.heap.size 2 (.int .i64 (needI wn kn))) (fun e=>by have:=Hwb.out _ e;omega)).grown g5 (fun e=>by have:=Hwb.out _ e;omega)).mono (base':=w.heap.size) (by omega)
       have OL:=((P9.out.grown (grown_set W6 w1.heap.size 2 (.int .i64 (needI wn kn))) (fun e=>by have:=(P9.out.lt _ e).1;omega)).grown g5 (fun e=>by have:=(P9.out.lt _ e).1;omega)).mono (base':=w.heap.size) (by omega)
       have HF:=Lib.hid (And.intro KF (And.intro GF (And.intro RF (And.intro OW OL))))
       clear KF GF g5 RF OW OL M10 M9 O9 P9 Hwb
       dsimp only
       go_wp2
       refine bodyPost_ret (results_c1 rfl _ _ _ _ rfl HF.out.1 Tryz.underlying60 (by kernel_rfl)) rfl ?_
       refine ⟨HF.out.2.1,?_⟩
       rw [Hf.out]
       exact ⟨_,rfl,⟨⟨.slice Aw nw cw, .slice Al nl cl⟩,rfl,HF.out.2.2.2.1,HF.out.2.2.2.2,Hd.out⟩,HF.out.2.2.1⟩
end Go.Proofs.YtcodpnbemdflcaaGreatDoor
namespace Go.Proofs.YtcodpnbemdflcaaGreatDoor
open Go.RowKit
theorem run_makeS {P:Program} {t e:TypeId} {z:Value} {m bytes:Nat} (ht:P.underlying t=some (.slice e)) (hi:(P.info? e).map (fun i=>(i.zero,i.size,i.bytes))=some (some z,m,bytes)) (hz:z.cells.size=m) (hm:0 < m) (n:Nat) (hn:bytes*n≤140737488355328) (hn2:n≤140737488355328) :
  ∃ cur:List Value,cur.length=n*m∧(∀ u ∈ cur,u ∈ z.cells.toList) ∧ ∀ W:World,(Instr.makeSlice t (.int .i64 (n:Int)) (.int .i64 (n:Int))).run P W = .ok (.slice (some ⟨W.heap.size,0,none⟩) n n) (W.alloc (.cells cur.toArray e)):=by
 obtain ⟨i0,hi,hz0,hz1,hz2⟩:=info_parts hi
 have hb:(bytes:Int)*(n:Int)≤281474976710656:=by
  have h:((bytes*n:Nat):Int)≤281474976710656:=by omega
  rwa [Int.natCast_mul] at h
 refine ⟨(madeCells z.cells (n*m)).toList,by rw [Array.length_toList,size_madeCells],fun u hu => ?_,fun W => ?_⟩
 ·unfold madeCells at hu
  rw [Array.toList_map,List.mem_map] at hu
  obtain ⟨i,_,rfl⟩:=hu
  have hlt:i % z.cells.size < z.cells.size:=Nat.mod_lt _ (by omega)
  rw [getElem!_pos z.cells _ hlt]
  exact Array.mem_toList_iff.2 (Array.getElem_mem hlt)
 ·have h:=run_make (P:=P) W t e i0 _ ht hi hz0 .i64 .i64 (n:Int) (n:Int) (by omega) (by omega) (by rw [hz2];exact hb) (by omega)
  rw [h,Int.toNat_natCast,hz1,Array.toArray_toList]
theorem split_at {α:Type} {l:List α} {p m:Nat} (h:p+m≤l.length) : ∃ xs ys zs,l=xs++(ys++zs)∧xs.length=p∧ys.length=m∧xs=l.take p:=by
 refine ⟨l.take p,(l.drop p).take m,(l.drop p).drop m,?_,by rw [List.length_take];omega,by rw [List.length_take,List.length_drop];omega,rfl⟩
 rw [List.take_append_drop,List.take_append_drop]
theorem sets2 {α:Type} {l:List α} {p:Nat} (h:p+2≤l.length) (a b:α):((l.set p a).set (p+1) b).take (p+2)=l.take p ++ [a,b]:=by
 obtain ⟨xs,ys,zs,rfl,hx,hy,e⟩:=split_at h
 rw [← e]
 match ys,hy with
 | [y0,y1],_=>subst hx;simp [List.take_append];exact List.take_of_length_le (by omega)
theorem sets5 {α:Type} {l:List α} {p:Nat} (h:p+5≤l.length) (a b c d f:α):(((((l.set p a).set (p+1) b).set (p+2) c).set (p+3) d).set (p+4) f).take (p+5)=l.take p ++ [a,b,c,d,f]:=by
 obtain ⟨xs,ys,zs,rfl,hx,hy,e⟩:=split_at h
 rw [← e]
 match ys,hy with
 | [y0,y1,y2,y3,y4],_=>subst hx;simp [List.take_append];exact List.take_of_length_le (by omega)
theorem Whole.ownS {w:World} {g:Nat} {t:TypeId} {cur xs:List Value} {m n base:Nat} (h:Whole w g t cur) (hb:base≤g) (hl:cur.length=n*m) (hx:xs.length=n*m) (ht:cur.take (n*m)=xs) (hm:n≤maxLen):w.ownsRow base t m (.slice (some ⟨g,0,none⟩) n n) n xs :=
 ⟨hx, .inr ⟨g,n,cur.toArray,rfl,hb,h,Nat.le_refl _,hm,by simpa using hl,by simpa using ht⟩⟩
def nobV (v:Value):Prop := ∀ x,v ≠ .int .u8 x
theorem nobs_set {l:List Value} (h : ∀ u ∈ l,nobV u) (j:Nat) {v:Value} (hv:nobV v) : ∀ u ∈ l.set j v,nobV u:=fun u hu=>by
 rcases List.mem_or_eq_of_mem_set hu with e | e
 ·exact h u e
 ·rw [e];exact hv
end Go.Proofs.YtcodpnbemdflcaaGreatDoor
namespace Go.Proofs.YtcodpnbemdflcaaGreatDoor
open Go.RowKit
theorem Tryz.infoObj:(Tryz.prog.info? 60).map (fun i=>(i.zero,i.size,i.bytes))=some (some (.agg #[.int .i64 0, .int .i64 0, .int .i64 0, .slice none 0 0, .slice none 0 0]),5,72):=by kernel_rfl
structure LObsRel (w:World) (g n:Nat) (l:List UInt8) (k:Nat) (cur:List Value) (os:List (Ob × OSl)) (r:List UInt8) (wr:World):Prop where
 le:k≤n
 prs:prep pobj k l=some (os.map (·.1),r)
 rd:Rdr wr g r
 row:Whole wr w.heap.size 60 cur
 len:cur.length=n*5
 nob : ∀ u ∈ cur,nobV u
 fst:cur.take (k*5)=ocs os
 ints : ∀ p ∈ os,OwnV 3 wr (w.heap.size+1) p.2.wv (ivs p.1.ws)∧OwnV 3 wr (w.heap.size+1) p.2.lv (ivs p.1.ls)
 apart:(blocksOf os).Nodup
 gr:w.grownBy wr (some g)
theorem LObsRel.lenOs {w wr:World} {g n k:Nat} {l r:List UInt8} {cur:List Value} {os:List (Ob × OSl)} (h:LObsRel w g n l k cur os r wr):os.length=k:=by
 have:=prep_len h.prs
 rwa [List.length_map] at this
def LObsLoop (w:World) (g n:Nat) (l:List UInt8) (i:Value) (wr:World):Prop := ∃ (k:Nat) (cur:List Value) (os:List (Ob × OSl)) (r:List UInt8),i = .int .i64 (k:Int)∧LObsRel w g n l k cur os r wr
theorem LObsRel.step {w wr w2:World} {g n k:Nat} {l r r':List UInt8} {cur:List Value} {os:List (Ob × OSl)} (hr:Rdr w g l) (h:LObsRel w g n l k cur os r wr) (hlt:k < n) {x:Ob} {s:OSl} (hp:pobj r=some (x,r')) (hg:wr.grownBy w2 (some g)) (rd2:Rdr w2 g r') (o1:OwnV 3 w2 wr.heap.size s.wv (ivs x.ws)) (o2:OwnV 3 w2 wr.heap.size s.lv (ivs x.ls)) (hd : ∀ k,s.wv.ownBlock=some k→s.lv.ownBlock≠some k) :
  LObsRel w g n l (k+1) (((((cur.set (k*5) (.int .i64 x.hd)).set (k*5+1) (.int .i64 x.bl.1)).set (k*5+2) (.int .i64 x.bl.2)).set (k*5+3) s.wv).set (k*5+4) s.lv) (os ++ [(x,s)]) r'
   (((((w2.setCell ⟨w.heap.size,k*5,none⟩ (.int .i64 x.hd)).setCell ⟨w.heap.size,k*5+1,none⟩ (.int .i64 x.bl.1)).setCell ⟨w.heap.size,k*5+2,none⟩ (.int .i64 x.bl.2)).setCell ⟨w.heap.size,k*5+3,none⟩ s.wv).setCell ⟨w.heap.size,k*5+4,none⟩ s.lv):=by
 have hgl:=hr.lt
 have hlo:=h.lenOs
 have hbl:=h.row.lt
 have W2:=h.row.grown hg (by omega)
 have gs:w2.grownBy (((((w2.setCell ⟨w.heap.size,k*5,none⟩ (.int .i64 x.hd)).setCell ⟨w.heap.size,k*5+1,none⟩ (.int .i64 x.bl.1)).setCell ⟨w.heap.size,k*5+2,none⟩ (.int .i64 x.bl.2)).setCell ⟨w.heap.size,k*5+3,none⟩ s.wv).setCell ⟨w.heap.size,k*5+4,none⟩ s.lv) (some w.heap.size) :=
  grown_trans (grown_trans (grown_trans (grown_trans (grown_set _ _ _ _) (grown_set _ _ _ _)) (grown_set _ _ _ _)) (grown_set _ _ _ _)) (grown_set _ _ _ _)
 have n1:nobV s.wv:=fun y e=>by
  obtain ⟨A,c,e2,_⟩:=o1.shape rfl
  rw [e2] at e
  cases e
 have n2:nobV s.lv:=fun y e=>by
  obtain ⟨A,c,e2,_⟩:=o2.shape rfl
  rw [e2] at e
  cases e
 have own : ∀ {v:Value} {zs:List Value} {b:Nat},w.heap.size+1≤b→OwnV 3 w2 b v zs→OwnV 3 (((((w2.setCell ⟨w.heap.size,k*5,none⟩ (.int .i64 x.hd)).setCell ⟨w.heap.size,k*5+1,none⟩ (.int .i64 x.bl.1)).setCell ⟨w.heap.size,k*5+2,none⟩ (.int .i64 x.bl.2)).setCell ⟨w.heap.size,k*5+3,none⟩ s.wv).setCell ⟨w.heap.size,k*5+4,none⟩ s.lv) (w.heap.size+1) v zs:=fun hb o =>
  (o.grown gs (fun e=>by have:=(o.lt _ e).1;omega)).mono hb
 refine ⟨hlt,?_,rd2.apart (W2.noByte h.nob) (by omega) gs,((((W2.set _ _).set _ _).set _ _).set _ _).set _ _,by simp [h.len],?_,?_,?_,?_,?_⟩
 ·rw [List.map_append]
  exact prep_step h.prs hp
 ·exact nobs_set (nobs_set (nobs_set (nobs_set (nobs_set h.nob _ (fun _ e=>by cases e)) _ (fun _ e=>by cases e)) _ (fun _ e=>by cases e)) _ n1) _ n2
 ·rw [show (k+1)*5=k*5+5 by omega,sets5 (by rw [h.len];omega),h.fst,ocs_snoc]
  rfl
 ·intro p hp2
  rcases List.mem_append.1 hp2 with e | e
  ·obtain ⟨a1,a2⟩:=h.ints p e
   exact ⟨own (Nat.le_refl _) (a1.grown hg (fun e=>by have:=(a1.lt _ e).1;omega)),own (Nat.le_refl _) (a2.grown hg (fun e=>by have:=(a2.lt _ e).1;omega))⟩
  ·rw [List.mem_singleton.1 e]
   exact ⟨own hbl o1,own hbl o2⟩
 ·rw [blocksOf_snoc,List.nodup_append]
  refine ⟨h.apart,?_,fun a ha b hb e => ?_⟩
  ·unfold twoB
   rw [List.nodup_append]
   refine ⟨?_,?_,fun a ha b hb e => ?_⟩
   ·cases s.wv.ownBlock <;> simp
   ·cases s.lv.ownBlock <;> simp
   ·subst e
    rw [Option.mem_toList] at ha hb
    exact hd a ha hb
  ·subst e
   obtain ⟨p,hp2,e⟩:=mem_blocks.1 ha
   have h1:a < wr.heap.size:=by
    rcases e with e | e
    ·exact ((h.ints p hp2).1.lt a e).2
    ·exact ((h.ints p hp2).2.lt a e).2
   have h2:wr.heap.size≤a:=by
    rcases mem_two.1 hb with e | e
    ·exact (o1.lt a e).1
    ·exact (o2.lt a e).1
   omega
 ·exact grown_new (grown_new (grown_new (grown_new (grown_new (grown_trans h.gr hg) (Nat.le_refl _) _ _) (Nat.le_refl _) _ _) (Nat.le_refl _) _ _) (Nat.le_refl _) _ _) (Nat.le_refl _) _ _
theorem LObsRel.done {w wr:World} {g n:Nat} {l r:List UInt8} {cur:List Value} {os:List (Ob × OSl)} (h:LObsRel w g n l n cur os r wr) (hn:n≤1000):OwnOs 60 3 wr w.heap.size (.slice (some ⟨w.heap.size,0,none⟩) n n) os:=by
 have hlo:=h.lenOs
 refine ⟨?_,fun p hp=>⟨(h.ints p hp).1.mono (Nat.le_succ _),(h.ints p hp).2.mono (Nat.le_succ _)⟩,h.apart⟩
 rw [hlo]
 exact h.row.ownS (Nat.le_refl _) h.len (by rw [ocs_length,hlo]) h.fst (by simp only [maxLen];omega)
set_option maxHeartbeats 2000000 in
theorem listObj_any (n most:Nat) (hm:most≤1000) (g:Nat) (l:List UInt8) (w:World) (hr:Rdr w g l) :
  Calls Tryz.prog 208 #[.int .i64 (n:Int), .int .i64 (most:Int), .func (.func 209) #[rdv g] #[]] w
   (Reads w g (if most < n then none else prep pobj n l) fun xs v w' => ∃ os,xs=os.map (·.1)∧OwnOs 60 3 w' w.heap.size v os):=by
 by_cases hn:most < n
 ·rw [if_pos hn]
  go_enter Tryz.func208,Tryz.ntmps208
  go_wp2_with fail
  refine (giveUp_any _).mono ?_
  rintro e w' ⟨rfl,rfl⟩
  go_wp2
  exact ⟨rfl,grown_refl _ _,rfl⟩
 ·rw [if_neg hn]
  obtain ⟨cur,hcl,hcm,hmk⟩:=run_makeS (P:=Tryz.prog) Tryz.underlying24 Tryz.infoObj rfl (by omega) n (by omega) (by omega)
  have HR:Hid (LObsRel w g n l 0 cur [] l (w.alloc (.cells cur.toArray 60))):=Lib.hid ⟨Nat.zero_le _,rfl,hr.alloc _,Whole.new w cur.toArray 60,hcl,fun u hu x e=>by
   have:=hcm u hu
   subst e
   simp [Value.cells] at this,by simp [ocs],(fun p hp=>by cases hp),List.nodup_nil,grown_below ((Below.refl _ _).alloc (Nat.le_refl _) _) _⟩
  clear hcl hcm
  unfold rdv
  go_enter Tryz.func208,Tryz.ntmps208
  go_wp2
  clear hmk
  go_loopw [17] (LObsLoop w g n l) (fun i _=>n - (intOf i).toNat)
  case atStart=>exact ⟨0,cur, [],l,rfl,HR.out⟩
  case round =>
   clear HR
   obtain ⟨k,cur',os,r,rfl,hrel⟩:=hrel
   have Hrel:=Lib.hid hrel
   have hk:=hrel.le
   clear hrel
   by_cases hlt:k < n
   ·have hki:(k:Int) < (n:Int):=by omega
    go_wp2_with fail
    refine (object_any g r wr Hrel.out.rd).mono ?_
    rintro e w2 ⟨hg2,hm2⟩
    cases hq:pobj r with
    | none =>
     rw [hq] at hm2
     subst hm2
     have Hst:=Lib.hid (prep_stop Hrel.out.prs hq hlt)
     have G2:=Lib.hid (grown_trans Hrel.out.gr hg2)
     clear hq hg2
     go_wp2
     exact ⟨rfl,G2.out,by rw [Hst.out]⟩
    | some q =>
     obtain ⟨x,r'⟩:=q
     rw [hq] at hm2
     obtain ⟨v,rfl,⟨s,rfl,o1,o2,hd⟩,rd2⟩:=hm2
     have Hs:=Lib.hid (Hrel.out.step hr hlt hq hg2 rd2 o1 o2 hd)
     have W2:=Hrel.out.row.grown hg2 (by have:=hr.lt;omega)
     have hkl:k*5+5≤cur'.length:=by rw [Hrel.out.len];omega
     obtain ⟨u0,hu0⟩ : ∃ u,w2.cell? ⟨w.heap.size,k*5,none⟩=some u:=⟨_,by rw [W2.cell,List.getElem?_eq_getElem (by omega)]⟩
     obtain ⟨u1,hu1⟩ : ∃ u,w2.cell? ⟨w.heap.size,k*5+1,none⟩=some u:=⟨_,by rw [W2.cell,List.getElem?_eq_getElem (by omega)]⟩
     obtain ⟨u2,hu2⟩ : ∃ u,w2.cell? ⟨w.heap.size,k*5+2,none⟩=some u:=⟨_,by rw [W2.cell,List.getElem?_eq_getElem (by omega)]⟩
     obtain ⟨u3,hu3⟩ : ∃ u,w2.cell? ⟨w.heap.size,k*5+3,none⟩=some u:=⟨_,by rw [W2.cell,List.getElem?_eq_getElem (by omega)]⟩
     obtain ⟨u4,hu4⟩ : ∃ u,w2.cell? ⟨w.heap.size,k*5+4,none⟩=some u:=⟨_,by rw [W2.cell,List.getElem?_eq_getElem (by omega)]⟩
     have z0:=W2.free (k*5)
     have z1:=W2.free (k*5+1)
     have z2:=W2.free (k*5+2)
     have z3:=W2.free (k*5+3)
     have z4:=W2.free (k*5+4)
     obtain ⟨x0,⟨x1,x2⟩,xw,xl⟩:=x
     obtain ⟨sw,sl⟩:=s
     obtain ⟨Aw,cw,rfl,_,_,_⟩:=o1.shape rfl
     obtain ⟨Al,cl,rfl,_,_,_⟩:=o2.shape rfl
     simp only at Hs
     generalize (ivs xw).length=nw at *
     generalize (ivs xl).length=nl at *
     clear hq hg2 rd2 o1 o2 hd W2 hkl
     dsimp only [oc]
     go_wp2
     go_roundw
     case rel=>exact ⟨k+1,_,_,r',by go_num,Hs.out⟩
     case measure=>simp [intOf];omega
   ·obtain rfl:k=n:=by omega
    have Hd:=Lib.hid (Hrel.out.done (by omega))
    go_wp2
    go_ret
    refine ⟨Hrel.out.gr,?_⟩
    rw [Hrel.out.prs]
    exact ⟨_,rfl,⟨os,rfl,Hd.out⟩,Hrel.out.rd⟩
end Go.Proofs.YtcodpnbemdflcaaGreatDoor
namespace Go.Proofs.YtcodpnbemdflcaaGreatDoor
open Go.RowKit Go.Sort
theorem sz_mono {o r:Int} (hr:0≤r) (h:sz o≤sz r):o≤r:=by
 unfold sz at h
 have h1:((2 ^ o.toNat:Nat):Int)≤((2 ^ r.toNat:Nat):Int):=by
  rw [Int.natCast_pow,Int.natCast_pow];exact h
 have h2:=(Nat.pow_le_pow_iff_right (a:=2) (by omega)).1 (Int.ofNat_le.1 h1)
 omega
theorem sz_dvd {o p:Int} (h:o≤p):sz o ∣ sz p:=by
 unfold sz
 have:=Int.natCast_dvd_natCast.2 (Nat.pow_dvd_pow 2 (show o.toNat≤p.toNat by omega))
 rwa [Int.natCast_pow,Int.natCast_pow] at this
def FillInv (G:List Blk) (a b:Int) (G':List Blk) (p:Int):Prop :=
 ∀ (r:Int) (F:List Blk) (k:Nat),Right r F→G=F.take k→Part F a k→a≤b→b≤sz r→(∀ x,a≤x→x < b→Cov F x) → ¬ Cov F b → ∃ k',G'=F.take k'∧Part F p k'∧p≤b
theorem FillInv.start (G:List Blk) (a b:Int):FillInv G a b G a:=fun _ _ k _ hG hp hab _ _ _=>⟨k,hG,hp,hab⟩
theorem FillInv.step {G G':List Blk} {a b p o:Int} (h:FillInv G a b G' p) (hap:a≤p) (hpb:p < b) (h0:0≤p) (ho:0≤o) (hm:p % sz o=0) (hle:p+sz o≤b) (hn : ¬ (p % (2*sz o)=0∧p+2*sz o≤b)):FillInv G a b (G' ++ [(p,o)]) (p+sz o):=by
 intro r F k hR hG hp hab hb hc hnc
 obtain ⟨k',hG',hP,_⟩:=h r F k hR hG hp hab hb hc hnc
 obtain ⟨B,hB,hB1⟩:=hP.at_ hR.rise (hc p hap hpb)
 have hBm:=List.mem_of_getElem? hB
 have hM:=hR.may hBm
 have hzo:=sz_pos o
 have hr:=hR.1
 have h1:o≤B.2:=hR.greatest hBm ho (sz_mono (by omega) (by omega)) (by rw [hB1];exact hm) fun x hx1 hx2=>hc x (by omega) (by omega)
 have h2:B.2≤o:=by
  rcases Int.lt_or_le o B.2 with q | q
  ·exfalso
   have hs:=sz_succ ho
   have hd:2*sz o ∣ sz B.2:=by rw [← hs];exact sz_dvd (by omega)
   refine hn ⟨?_,?_⟩
   ·rw [← hB1]
    exact Int.emod_eq_zero_of_dvd (Int.dvd_trans hd (Int.dvd_of_emod_eq_zero hM.2.2.2.2))
   ·have hzB:=sz_pos B.2
    have h3:2*sz o≤sz B.2:=Int.le_of_dvd hzB hd
    rcases Int.lt_or_le b (B.1+sz B.2) with q2 | q2
    ·exact absurd ⟨B,hBm,by unfold InB;omega⟩ hnc
    ·omega
  ·exact q
 have hBe:B=(p,o):=Prod.ext hB1 (by simp only;omega)
 obtain ⟨hS,hT⟩:=hP.step hR hB hB1
 rw [hBe] at hS hT
 exact ⟨k'+1,by rw [hG',hT],hS,hle⟩
theorem FillInv.done {G G':List Blk} {a b p:Int} (h:FillInv G a b G' p) (hp:b≤p) {r:Int} {F:List Blk} {k:Nat} (hR:Right r F) (hG:G=F.take k) (hP:Part F a k) (hab:a≤b) (hb:b≤sz r) (hc : ∀ x,a≤x→x < b→Cov F x) (hn : ¬ Cov F b) : ∃ k',G'=F.take k'∧Part F b k':=by
 obtain ⟨k',h1,h2,h3⟩:=h r F k hR hG hP hab hb hc hn
 obtain rfl:p=b:=by omega
 exact ⟨k',h1,h2⟩
theorem AppB.refl {U:TypeId} {w:World} {base:Nat} {v:Value} {l:List Blk} (h:OwnB U w base v l):AppB U w base v l v w:=⟨h,grown_refl _ _, .inl rfl⟩
theorem AppB.trans {U:TypeId} {w w1 w2:World} {base:Nat} {v v1 v2:Value} {l m:List Blk} (h:AppB U w base v l v1 w1) (k:AppB U w1 base v1 m v2 w2):AppB U w base v m v2 w2:=by
 have hs:=h.2.1.size
 refine ⟨k.1,⟨k.2.1.os.trans h.2.1.os,k.2.1.tape.trans h.2.1.tape,k.2.1.output.trans h.2.1.output,Nat.le_trans hs k.2.1.size,fun i hi hv => ?_⟩,?_⟩
 ·rw [k.2.1.block i (Nat.lt_of_lt_of_le hi hs) (fun e => ?_),h.2.1.block i hi hv]
  rcases h.2.2 with q | ⟨z,q,hz⟩
  ·exact hv (e.trans q)
  ·rw [q] at e
   injection e with e
   omega
 ·rcases k.2.2 with q | ⟨z,q,hz⟩
  ·rcases h.2.2 with q2 | q2
   ·exact .inl (q.trans q2)
   ·rw [q];exact .inr q2
  ·exact .inr ⟨z,q,Nat.le_trans hs hz⟩
def FilldP (w:World) (base:Nat) (v:Value) (G:List Blk) (a b:Int) (e:Ending) (w':World):Prop :=
 ∃ v' G' p,e = .returned v'∧AppB 57 w base v G' v' w'∧(G'.length:Int)≤G.length+max 0 (b - a)∧FillInv G a b G' p∧b≤p
def FillRel (w:World) (base:Nat) (v0:Value) (G:List Blk) (a b:Int) (v i:Value) (wr:World):Prop :=
 ∃ (G':List Blk) (p:Int),i = .int .i64 p∧a≤p∧p≤max a b∧AppB 57 w base v0 G' v wr∧(G'.length:Int)≤G.length+(p - a)∧FillInv G a b G' p
def SizeRel (p b:Int) (W:World) (o s:Value) (wr:World):Prop :=
 ∃ k:Int,0≤k∧o = .int .i64 k∧s = .int .i64 (sz k)∧p % sz k=0∧p+sz k≤b∧wr=W
set_option maxHeartbeats 2000000 in
theorem fill_any (v:Value) (G:List Blk) (a b:Int) (base:Nat) (w:World) (h:OwnB 57 w base v G) (hbase:base≤w.heap.size) (ha:0≤a) (ha2:a≤1099511627776) (hb:b≤1099511627776) (hG:G.length≤4398046511104) :
  Calls Tryz.prog 246 #[v, .int .i64 a, .int .i64 b] w (FilldP w base v G a b):=by
 have Ho:=Lib.hid h
 clear h
 go_enter Tryz.func246,Tryz.ntmps246
 go_wp2
 go_loopw [0,1] (FillRel w base v G a b) (fun _ i _=>(b - intOf i).toNat)
 case atStart=>exact ⟨G,a,rfl,by omega,by omega,AppB.refl Ho.out,by omega,FillInv.start G a b⟩
 case round =>
  obtain ⟨G',p,rfl,hap,hpm,hown,hlen,hinv⟩:=hrel
  have Hown:=Lib.hid hown
  have Hlen:=Lib.hid hlen
  have Hinv:=Lib.hid hinv
  clear hown hlen hinv
  by_cases hlt:p < b
  ·go_wp2
   go_loopw [7,8] (SizeRel p b wr) (fun _ s _=>(b - p - intOf s).toNat)
   case atStart=>exact ⟨0,by omega,rfl,by rw [sz0],by rw [sz0];omega,by rw [sz0];omega,rfl⟩
   case round =>
    obtain ⟨k,hk0,rfl,rfl,hm,hle,rfl⟩:=hrel
    have hs0:=sz_pos k
    have Hk:=Lib.hid hm
    have Hle:=Lib.hid hle
    obtain ⟨s,hs⟩ : ∃ s,sz k=s:=⟨_,rfl⟩
    have Hs:=Lib.hid hs
    rw [hs] at hs0 hle ⊢
    have hs40:s≤1099511627776:=by omega
    have hp0:0≤p:=by omega
    have hk40:k≤40:=sz_mono (by omega) (by rw [hs];exact Int.le_trans hs40 (by decide))
    have hp40:p≤1099511627776:=by omega
    have htm:p.tmod (2*s)=p % (2*s):=Int.tmod_eq_emod_of_nonneg hp0
    clear hm hs
    by_cases c1:p % (2*s)=0
    ·have hT:p.tmod (2*s)=0:=by rw [htm];exact c1
     have HT:=Lib.hid c1
     clear htm c1
     by_cases c2:p+2*s≤b
     ·have hsc:=Lib.hid (show p % sz (k+1)=0∧p+sz (k+1)≤b from by rw [sz_succ hk0,Hs.out];exact ⟨HT.out,c2⟩)
      have hsz2:=Lib.hid (show (2:Int)*s=sz (k+1) from by rw [sz_succ hk0,Hs.out])
      go_wp2
      go_roundw
      case rel=>exact ⟨k+1,by omega,by go_num,by rw [hsz2.out],hsc.out.1,hsc.out.2,rfl⟩
      case measure=>simp [intOf];omega
     ·have HN:=Lib.hid (show ¬ (p % (2*s)=0∧p+2*s≤b) from fun q=>c2 q.2)
      obtain ⟨n0,hn0⟩ : ∃ n0,G'.length=n0:=⟨_,rfl⟩
      obtain ⟨A0,cap0,rfl,_,_,_⟩:=Hown.out.1.shape hn0
      obtain ⟨v5,w5,hae,happ⟩:=run_appB_one (P:=Tryz.prog) base 26 26 57 Tryz.underlying26 Tryz.infoBlk2 rfl _ _ Hown.out.1 (p,k) (by have:=Hlen.out;omega) (Nat.le_trans hbase Hown.out.2.1.size)
      obtain ⟨A5,cap5,e5,_,_,_⟩:=happ.1.shape (n:=n0+1) (by rw [List.length_append,hn0];rfl)
      subst e5
      have O5:=Lib.hid (Hown.out.trans happ)
      have L5:=Lib.hid (show ((G' ++ [(p,k)]).length:Int)≤G.length+(p+s - a) from by rw [List.length_append];have:=Hlen.out;simp;omega)
      have I5:=Lib.hid (Hinv.out.step hap hlt hp0 hk0 Hk.out Hle.out (by rw [Hs.out];exact HN.out))
      rw [Hs.out] at I5
      simp only at hae
      clear happ hn0
      go_wp2_with (at_builtin;refine wpList_append_run hae rfl _ _ rfl rfl rfl rfl ?_)
      go_roundw
      case rel=>exact ⟨_,p+s,rfl,by omega,by omega,O5.out,L5.out,I5.out⟩
      case measure=>simp [intOf];omega
    ·obtain ⟨q,hq⟩ : ∃ q,p % (2*s)=q:=⟨_,rfl⟩
     have HN:=Lib.hid (show ¬ (p % (2*s)=0∧p+2*s≤b) from fun q=>c1 q.1)
     rw [hq] at htm c1
     have c3:(q == 0)=false:=by simpa using c1
     clear hq
     obtain ⟨n0,hn0⟩ : ∃ n0,G'.length=n0:=⟨_,rfl⟩
     obtain ⟨A0,cap0,rfl,_,_,_⟩:=Hown.out.1.shape hn0
     obtain ⟨v5,w5,hae,happ⟩:=run_appB_one (P:=Tryz.prog) base 26 26 57 Tryz.underlying26 Tryz.infoBlk2 rfl _ _ Hown.out.1 (p,k) (by have:=Hlen.out;omega) (Nat.le_trans hbase Hown.out.2.1.size)
     obtain ⟨A5,cap5,e5,_,_,_⟩:=happ.1.shape (n:=n0+1) (by rw [List.length_append,hn0];rfl)
     subst e5
     have O5:=Lib.hid (Hown.out.trans happ)
     have L5:=Lib.hid (show ((G' ++ [(p,k)]).length:Int)≤G.length+(p+s - a) from by rw [List.length_append];have:=Hlen.out;simp;omega)
     have I5:=Lib.hid (Hinv.out.step hap hlt hp0 hk0 Hk.out Hle.out (by rw [Hs.out];exact HN.out))
     rw [Hs.out] at I5
     simp only at hae
     clear happ hn0
     go_wp2_with (at_builtin;refine wpList_append_run hae rfl _ _ rfl rfl rfl rfl ?_)
     go_roundw
     case rel=>exact ⟨_,p+s,rfl,by omega,by omega,O5.out,L5.out,I5.out⟩
     case measure=>simp [intOf];omega
  ·have hnl : ¬ p < b:=hlt
   obtain ⟨n0,hn0⟩ : ∃ n0,G'.length=n0:=⟨_,rfl⟩
   obtain ⟨A0,cap0,rfl,_,_,_⟩:=Hown.out.1.shape hn0
   clear hn0
   go_wp2
   go_ret
   exact ⟨_,G',p,rfl,Hown.out,by have:=Hlen.out;omega,Hinv.out,by omega⟩
end Go.Proofs.YtcodpnbemdflcaaGreatDoor
namespace Go.Proofs.YtcodpnbemdflcaaGreatDoor
open Go.RowKit Go.Sort
set_option maxHeartbeats 1000000 in
theorem cmpBeside_any (x y:Blk) (W:World):Calls Tryz.prog 245 #[.agg #[.int .i64 x.1, .int .i64 x.2], .agg #[.int .i64 y.1, .int .i64 y.2]] W fun e w'=>e = .returned (.int .i64 (cmpAt x y)) ∧ ∃ q os',w'=grow (W.drewN q) os':=by
 have hcon:=fun W'=>AnyG.cmp_Compare_int Tryz.cmpI x.1 y.1 W'
 change ∀ W',Calls Tryz.prog 79 _ _ _ at hcon
 unfold cmpAt
 generalize Lib.compareInt x.1 y.1=r at hcon ⊢
 go_enter Tryz.func245,Tryz.ntmps245
 go_wp2_with (go_at_call 79;refine (hcon _).mono ?_;rintro e w' ⟨rfl,rfl⟩)
 go_ret
 exact ⟨rfl,0,_,by rw [alloc_eq_grow,alloc_eq_grow,grow_grow];rfl⟩
set_option maxHeartbeats 1000000 in
theorem sortBeside_any (base:Nat) (v:Value) (l:List Blk) (w:World) (h:OwnB 57 w base v l) (hl:l.length≤2000) :
  Calls Tryz.prog 77 #[v, .func (.func 245) #[] #[]] w (RisesB base v l w):=by
 obtain ⟨n,hn⟩ : ∃ n,n=l.length:=⟨_,rfl⟩
 have eg : ∀ args w,(callFunc 245 args).run Tryz.prog w = .ok (.enter 245 args) w:=enters_of Tryz.func245 (by kernel_rfl) rfl
 by_cases h0:n=0
 ·obtain ⟨A,c,rfl,_⟩:=h.shape hn.symm
  subst h0
  obtain rfl:l = []:=List.eq_nil_of_length_eq_zero hn.symm
  have hcon:=AnyF.slices_SortFunc_none Tryz.sortB A c (.func (.func 245) #[] #[]) w
  change Calls Tryz.prog 77 _ _ _ at hcon
  exact hcon.mono fun e w' q=>⟨q.1, [],List.Perm.refl _,List.Pairwise.nil,by rw [q.2];exact h,by rw [q.2];exact grown_refl _ _⟩
 ·obtain ⟨g,cap,rfl,_,hg,_,_⟩:=h.form hn.symm (by omega)
  have hcon:=AnyQ.slices_SortFunc Tryz.sortB 2 Tryz.isAgg57 Tryz.sizeOf57 enc2 (fun _=>rfl) (fun x v hv=>by simp [enc2] at hv;rcases hv with rfl | rfl <;> rfl) cmpAt swoAt 245 #[] g 0 cap l.toArray w eg
   (fun _ _ _ _ x y=>cmpBeside_any x y _) (holds_own h hn.symm) hg (by simp;omega)
  change Calls Tryz.prog 77 _ _ _ at hcon
  rw [List.size_toArray, ← hn] at hcon
  refine hcon.mono fun e w' q => ?_
  obtain ⟨rfl,d',m,os,hp,hs,rfl⟩:=q
  obtain ⟨p1,_,p3⟩:=hp
  have hsz:d'.size=n:=by rw [p1,List.size_toArray,hn]
  have e1:(d'.extract 0 n).toList=d'.toList:=by rw [← hsz,Array.extract_size]
  have e2:(l.toArray.extract 0 n).toList=l:=by rw [hn, ← List.size_toArray,Array.extract_size]
  rw [e1,e2] at p3
  have hlen:d'.toList.length=n:=by rw [p3.length_eq,hn]
  refine ⟨rfl,d'.toList,p3,?_,?_,?_⟩
  ·rw [List.pairwise_iff_getElem]
   intro i j hi hj hij
   have:=hs i j (Nat.zero_le _) hij (by omega)
   rw [ltAt] at this
   simp only [Array.length_toList] at hi hj
   rw [getElem!_pos d' j hj,getElem!_pos d' i hi] at this
   simp only [Array.getElem_toList]
   have:=of_decide_eq_false this
   omega
  ·have:=own_sorted (m:=m) (os:=os) h hn.symm hlen
   simpa using this
  ·exact grown_sorted d'
def BesInv (T:List Blk) (j:Nat) (G:List Blk) (p:Int):Prop :=
 ∀ (od:Int) (F:List Blk),FreeOf od T F→(∃ k,G=F.take k∧Part F p k)∧p≤sz od∧(∀ (i:Nat) (b:Blk),i < j→T[i]? = some b→b.1+sz b.2≤p) ∧ ∀ (i:Nat) (b:Blk),j≤i→T[i]? = some b→p≤b.1
theorem BesInv.start (T:List Blk):BesInv T 0 [] 0:=fun od _ h =>
 ⟨⟨0,rfl,Part.start h.right⟩,Int.le_of_lt (sz_pos od),fun _ _ hi=>absurd hi (Nat.not_lt_zero _),fun _ b _ hb=>(h.may b (List.mem_of_getElem? hb)).2.2.1⟩
def Filled (G:List Blk) (a b:Int) (G':List Blk):Prop :=
 ∀ (r:Int) (F:List Blk) (k:Nat),Right r F→G=F.take k→Part F a k→a≤b→b≤sz r→(∀ x,a≤x→x < b→Cov F x) → ¬ Cov F b → ∃ k',G'=F.take k'∧Part F b k'
theorem FillInv.filled {G G':List Blk} {a b p:Int} (h:FillInv G a b G' p) (hp:b≤p):Filled G a b G':=fun _ _ _ hR hG hP hab hb hc hn=>h.done hp hR hG hP hab hb hc hn
theorem BesInv.step {T G G':List Blk} {j:Nat} {p:Int} (h:BesInv T j G p) (hp0:0≤p) (hs:T.Pairwise (fun a b=>a.1≤b.1)) {B:Blk} (hB:T[j]? = some B) (hf:Filled G p B.1 G'):BesInv T (j+1) G' (B.1+sz B.2):=by
 intro od F hF
 obtain ⟨⟨k,hG,hP⟩,hp,hbef,haft⟩:=h od F hF
 have hBm:=List.mem_of_getElem? hB
 have hM:=hF.may B hBm
 have hz:=sz_pos B.2
 have hpB:=haft j B (Nat.le_refl _) hB
 have hord : ∀ (i:Nat) (b:Blk),j < i→T[i]? = some b→B.1≤b.1:=fun i b hi hb=>by
  obtain ⟨h1,e1⟩:=List.getElem?_eq_some_iff.1 hB
  obtain ⟨h2,e2⟩:=List.getElem?_eq_some_iff.1 hb
  have:=List.pairwise_iff_getElem.1 hs j i h1 h2 hi
  rw [e1,e2] at this
  exact this
 have hap : ∀ (i:Nat) (b:Blk),j < i→T[i]? = some b → ¬ Meets b B:=fun i b hi hb=>by
  obtain ⟨h1,e1⟩:=List.getElem?_eq_some_iff.1 hB
  obtain ⟨h2,e2⟩:=List.getElem?_eq_some_iff.1 hb
  have:=List.pairwise_iff_getElem.1 hF.apart j i h1 h2 hi
  rw [e1,e2] at this
  exact this
 have hnB : ∀ x,InB B x → ¬ Cov F x:=fun x hx hc=>((hF.cov x).1 hc).2.2 ⟨B,hBm,hx⟩
 obtain ⟨k',hG',hP'⟩:=hf od F k hF.right hG hP hpB (by have:=hM.2.2.2.1;omega) (fun x h1 h2=>(hF.cov x).2 ⟨by omega,by have:=hM.2.2.2.1;omega,fun ⟨b,hb,hxb⟩=>by
  obtain ⟨i,hi⟩:=List.mem_iff_getElem?.1 hb
  rcases Nat.lt_or_ge i j with q | q
  ·have:=hbef i b q hi
   unfold InB at hxb
   omega
  ·rcases Nat.lt_or_ge j i with q2 | q2
   ·have:=hord i b q2 hi
    unfold InB at hxb
    omega
   ·obtain rfl:i=j:=by omega
    rw [hB] at hi
    injection hi with hi
    subst hi
    unfold InB at hxb
    omega⟩) (hnB _ (self_in B))
 refine ⟨⟨k',hG',hP'.skip (by omega) fun x h1 h2=>hnB x ⟨h1,h2⟩⟩,by have:=hM.2.2.2.1;omega,fun i b hi hb => ?_,fun i b hi hb => ?_⟩
 ·rcases Nat.lt_or_ge i j with q | q
  ·have:=hbef i b q hb
   omega
  ·obtain rfl:i=j:=by omega
   rw [hB] at hb
   injection hb with hb
   subst hb
   omega
 ·have h1:=hord i b (by omega) hb
  have h2:=hap i b (by omega) hb
  have h3:=sz_pos b.2
  rcases Int.lt_or_le b.1 (B.1+sz B.2) with q | q
  ·exact absurd ⟨q,by omega⟩ h2
  ·exact q
theorem BesInv.done {T G G':List Blk} {p N:Int} (h:BesInv T T.length G p) (hp0:0≤p) (hf:Filled G p N G') {od:Int} {F:List Blk} (hF:FreeOf od T F) (hN:N=sz od):G'=F:=by
 subst hN
 obtain ⟨⟨k,hG,hP⟩,hp,hbef,_⟩:=h od F hF
 obtain ⟨k',hG',hP'⟩:=hf od F k hF.right hG hP hp (Int.le_refl _) (fun x h1 h2=>(hF.cov x).2 ⟨by omega,h2,fun ⟨b,hb,hxb⟩=>by
  obtain ⟨i,hi⟩:=List.mem_iff_getElem?.1 hb
  have:=hbef i b (List.getElem?_eq_some_iff.1 hi).1 hi
  unfold InB at hxb
  omega⟩) (fun hc=>by have:=((hF.cov _).1 hc).2.1;omega)
 rw [hG',hP'.done hF.right]
end Go.Proofs.YtcodpnbemdflcaaGreatDoor
namespace Go.Proofs.YtcodpnbemdflcaaGreatDoor
open Go.RowKit Go.Sort
def BesideP (w:World) (os:List Ob) (N:Int) (e:Ending) (w':World):Prop :=
 ∃ v F',e = .returned v∧OwnB 57 w' w.heap.size v F'∧Below w.heap.size w w'∧(F'.length:Int)≤2199023255552 ∧ ∀ od F,N=sz od→FreeOf od (os.map Ob.bl) F→F'=F
def TakeRel (w:World) (n:Nat) (os:List Ob) (i:Value) (wr:World):Prop :=
 ∃ (k:Nat) (cur:List Value),k≤n∧i = .int .i64 (k:Int)∧Whole wr w.heap.size 57 cur∧cur.length=n*2∧cur.take (k*2)=bcs ((os.take k).map Ob.bl)∧Below w.heap.size w wr
def BesRel (W:World) (n:Nat) (T:List Blk) (v p i:Value) (wr:World):Prop :=
 ∃ (j:Nat) (G:List Blk) (q:Int),j≤n∧i = .int .i64 (j:Int)∧p = .int .i64 q∧0≤q∧q≤4294967296∧OwnB 57 wr W.heap.size v G∧(G.length:Int)≤(j:Int)*4294967296∧BesInv T j G q∧Below W.heap.size W wr
def BlkOk (x:Ob):Prop:=0≤x.bl.1∧x.bl.1≤2147483647∧0≤x.bl.2∧x.bl.2≤6
set_option maxHeartbeats 2000000 in
theorem freeBeside_any (A:Option Addr) (n c:Nat) (os:List Ob) (N:Int) (w:World) (h:RdO w A n os) (hn:n≤256) (hN0:0≤N) (hN:N≤256) (hok : ∀ x ∈ os,BlkOk x) :
  Calls Tryz.prog 210 #[.slice A n c, .int .i64 N] w (BesideP w os N):=by
 have hlen:=h.len
 obtain ⟨cur,hcl,hcm,hmk⟩:=run_makeS (P:=Tryz.prog) Tryz.underlying26 Tryz.infoBlk2 rfl (by omega) n (by omega) (by omega)
 have HR:=Lib.hid h
 have K0:=Lib.hid (Whole.new w cur.toArray 57)
 have B0:=Lib.hid ((Below.refl w.heap.size w).alloc (Nat.le_refl _) (.cells cur.toArray 57))
 have Hcl:=Lib.hid hcl
 have Hok:=Lib.hid hok
 have Hlen:=Lib.hid hlen
 clear h hcm hcl hok hlen
 go_enter Tryz.func210,Tryz.ntmps210
 go_wp2
 clear hmk
 go_loopw [17] (TakeRel w n os) (fun i _=>n - (intOf i).toNat)
 case atStart=>exact ⟨0,cur,Nat.zero_le _,rfl,K0.out,Hcl.out,by simp [bcs],B0.out⟩
 case round =>
  clear K0 B0 Hcl
  obtain ⟨k,cur',hk,rfl,hw,hcl,htk,hbw⟩:=hrel
  have Hw:=Lib.hid hw
  have Hcl:=Lib.hid hcl
  have Htk:=Lib.hid htk
  have Hbw:=Lib.hid hbw
  clear hw hcl htk hbw
  by_cases hlt:k < n
  ·have hki:(k:Int) < (n:Int):=by omega
   obtain ⟨b',off,x,rfl,hbl,hx,A1,n1,c1,A2,n2,c2,x0,x1,x2,x3,x4,_,_⟩:=HR.out.get hlt
   have hbr:=Nat.lt_of_lt_of_le hbl Hbw.out.size
   have y0:=(Hbw.out.cell (p:=⟨b',off+k*5,none⟩) hbl).trans x0
   have y1:=(Hbw.out.cell (p:=⟨b',off+k*5+1,none⟩) hbl).trans x1
   have y2:=(Hbw.out.cell (p:=⟨b',off+k*5+2,none⟩) hbl).trans x2
   have y3:=(Hbw.out.cell (p:=⟨b',off+k*5+3,none⟩) hbl).trans x3
   have y4:=(Hbw.out.cell (p:=⟨b',off+k*5+4,none⟩) hbl).trans x4
   have hkl:k*2+2≤cur'.length:=by rw [Hcl.out];omega
   obtain ⟨u0,hu0⟩ : ∃ u,wr.cell? ⟨w.heap.size,k*2,none⟩=some u:=⟨_,by rw [Hw.out.cell,List.getElem?_eq_getElem (by omega)]⟩
   obtain ⟨u1,hu1⟩ : ∃ u,wr.cell? ⟨w.heap.size,k*2+1,none⟩=some u:=⟨_,by rw [Hw.out.cell,List.getElem?_eq_getElem (by omega)]⟩
   have z0:=Hw.out.free (k*2)
   have z1:=Hw.out.free (k*2+1)
   have hbq:=Hw.out.lt
   have Hx:=Lib.hid hx
   clear hx x0 x1 x2 x3 x4 hkl
   have hset:=Lib.hid (show ((cur'.set (k*2) (.int .i64 x.bl.1)).set (k*2+1) (.int .i64 x.bl.2)).take ((k+1)*2)=bcs ((os.take (k+1)).map Ob.bl) from by
    rw [show (k+1)*2=k*2+2 by omega,sets2 (by rw [Hcl.out];omega),Htk.out,List.take_add_one,Hx.out,List.map_append,bcs_append]
    rfl)
   go_wp2
   go_roundw
   case rel =>
    refine ⟨k+1,(cur'.set (k*2) (.int .i64 x.bl.1)).set (k*2+1) (.int .i64 x.bl.2),by omega,by go_num,((Hw.out.set _ _).set _ _).alloc _,by simp [Hcl.out],hset.out,?_⟩
    have b1:=Hbw.out.setCell (p:=⟨w.heap.size,k*2,none⟩) (Nat.le_refl _) (.int .i64 x.bl.1)
    have b2:=b1.setCell (p:=⟨w.heap.size,k*2+1,none⟩) (Nat.le_refl _) (.int .i64 x.bl.2)
    exact b2.alloc b2.size _
   case measure=>simp [intOf];omega
  ·obtain rfl:k=n:=by omega
   have hown:OwnB 57 wr w.heap.size (.slice (some ⟨w.heap.size,0,none⟩) k k) (os.map Ob.bl):=by
    have ht:=Htk.out
    rw [show os.take k=os from List.take_of_length_le (by rw [Hlen.out];exact Nat.le_refl _)] at ht
    unfold OwnB
    rw [List.length_map,Hlen.out]
    exact Hw.out.ownS (Nat.le_refl _) Hcl.out (by rw [bcs_length,List.length_map,Hlen.out]) ht (by simp only [maxLen];omega)
   have S:=sortBeside_any w.heap.size _ _ wr hown (by rw [List.length_map,Hlen.out];omega)
   have hsz:=Hw.out.lt
   clear Hw Hcl Htk hown
   go_wp2_with fail
   refine S.mono ?_
   rintro e w4 ⟨rfl,T,hperm,hs,o4,gb⟩
   have hTn:T.length=k:=by rw [hperm.length_eq,List.length_map,Hlen.out]
   have B4:Below w.heap.size w w4:=below_grown Hbw.out gb Hbw.out.size (Nat.le_refl _)
   have O4:=Lib.hid o4
   have HB4:=Lib.hid B4
   have Hp:=Lib.hid hperm
   have Hs:=Lib.hid hs
   have hq4:=(o4.lt _ rfl).2
   simp only at hq4
   have Hbk:=Lib.hid (show ∀ B ∈ T,0≤B.1∧B.1≤2147483647∧0≤B.2∧B.2≤6 from fun B hB=>by
    obtain ⟨x,hx,rfl⟩:=List.mem_map.1 (hperm.mem_iff.1 hB)
    exact Hok.out x hx)
   have HT:=Lib.hid hTn
   clear S hperm hs o4 gb B4 Hbw hTn
   go_wp2
   go_loopw [8,9,32] (BesRel w4 k T) (fun _ _ i _=>k - (intOf i).toNat)
   case atStart=>exact ⟨0, [],0,Nat.zero_le _,rfl,rfl,by omega,by omega,OwnB.nil,by simp,BesInv.start T,Below.refl _ _⟩
   case round =>
    obtain ⟨j,G,q,hj,rfl,rfl,hq0,hqm,hown,hGl,hinv,hbw⟩:=hrel
    have Hown:=Lib.hid hown
    have HGl:=Lib.hid hGl
    have Hinv:=Lib.hid hinv
    have Hbw:=Lib.hid hbw
    clear hown hGl hinv hbw
    by_cases hlt:j < k
    ·have hji:(j:Int) < (k:Int):=by omega
     obtain ⟨B,hB⟩ : ∃ B,T[j]? = some B:=⟨_,List.getElem?_eq_getElem (by rw [HT.out];exact hlt)⟩
     obtain ⟨a0,a1⟩:=O4.out.cell HT.out hB
     obtain ⟨b1,b2,b3,b4⟩:=Hbk.out B (List.mem_of_getElem? hB)
     have d0:=(Hbw.out.cell (p:=⟨w.heap.size,j*2,none⟩) hq4).trans a0
     have d1:=(Hbw.out.cell (p:=⟨w.heap.size,j*2+1,none⟩) hq4).trans a1
     have HB:=Lib.hid hB
     have hsz2:=Hbw.out.size
     have hwq:w.heap.size < wr.heap.size:=by omega
     clear hB a0 a1
     obtain ⟨Ba,Bo⟩:=B
     simp only at b1 b2 b3 b4 d0 d1
     have R:=fill_any u8 G q Ba w4.heap.size (wr.alloc (.cells #[.int .i64 Ba, .int .i64 Bo] 57)) (Hown.out.below ((Below.refl _ _).alloc (Nat.le_refl _) _)) (by simp;omega) hq0 (by omega) (by omega) (by have:=HGl.out;omega)
     have KX:=Whole.new wr #[.int .i64 Ba, .int .i64 Bo] 57
     have B1:=Hbw.out.alloc Hbw.out.size (.cells #[.int .i64 Ba, .int .i64 Bo] 57)
     go_wp2_with fail
     refine R.mono ?_
     rintro e w5 ⟨v5,G5,p5,rfl,ap5,hl5,hi5,hle5⟩
     have ho:=Hown.out.below ((Below.refl wr.heap.size wr).alloc (Nat.le_refl _) (.cells #[.int .i64 Ba, .int .i64 Bo] 57))
     have hne5:u8.ownBlock≠some wr.heap.size:=fun e=>by have:=(Hown.out.lt _ e).2;omega
     have KX5:=KX.keep (ap5.2.1.block _ KX.lt (fun e=>hne5 e.symm))
     have e0:=KX5.cell 0
     have e1:=KX5.cell 1
     have Hstep:=Lib.hid (Hinv.out.step hq0 Hs.out HB.out (hi5.filled hle5))
     have Hap:=Lib.hid ap5.1
     have Hbel:=Lib.hid (ap5.below ho (Nat.le_refl _) (by simp;omega) B1)
     have Hl5:=Lib.hid (show (G5.length:Int)≤((j+1:Nat):Int)*4294967296 from by have:=HGl.out;omega)
     have hsp:sz Bo≤64:=by
      have:=sz_le (o:=Bo) (p:=6) b3 b4 (by omega)
      rwa [sz6] at this
     have hsp0:=sz_pos Bo
     clear R KX KX5 ap5 ho hne5 B1 hl5 hi5 hle5 d0 d1 hwq
     simp only at Hstep
     rcases (show Bo=0∨Bo=1∨Bo=2∨Bo=3∨Bo=4∨Bo=5∨Bo=6 by omega) with h | h | h | h | h | h | h <;> subst h
     all_goals
      simp only [sz0,sz1,sz2,sz3,sz4,sz5,sz6] at Hstep hsp hsp0
      go_wp2
      go_region
      go_wp2
      go_roundw
      case rel=>exact ⟨j+1,G5,_,by omega,by go_num,rfl,by omega,by omega,Hap.out.drew,Hl5.out,Hstep.out,Hbel.out.drew⟩
      case measure=>simp [intOf];omega
    ·obtain rfl:j=k:=by omega
     have hown:=Hown.out
     have R:=fill_any u8 G q N w4.heap.size wr hown Hbw.out.size hq0 (by omega) (by omega) (by have:=HGl.out;omega)
     go_wp2_with fail
     refine R.mono ?_
     rintro e w5 ⟨v5,G5,p5,rfl,ap5,hl5,hi5,hle5⟩
     have Hap:=Lib.hid (ap5.1.mono (base':=w.heap.size) (by omega))
     have hb5:=ap5.below hown (Nat.le_refl _) Hbw.out.size Hbw.out
     have Hb:=Lib.hid (HB4.out.trans (hb5.mono HB4.out.size))
     have Hl5:=Lib.hid (show (G5.length:Int)≤2199023255552 from by have:=HGl.out;omega)
     have Hf:=Lib.hid (show ∀ od F,N=sz od→FreeOf od (os.map Ob.bl) F→G5=F from fun od F hN hF=>by
      have hinv:=Hinv.out
      rw [← HT.out] at hinv
      exact hinv.done hq0 (hi5.filled hle5) (hF.perm Hp.out.symm) hN)
     clear R ap5 hb5 hl5 hi5 hle5 hown
     go_wp2
     go_ret
     exact ⟨_,G5,rfl,Hap.out,Hb.out,Hl5.out,Hf.out⟩
end Go.Proofs.YtcodpnbemdflcaaGreatDoor

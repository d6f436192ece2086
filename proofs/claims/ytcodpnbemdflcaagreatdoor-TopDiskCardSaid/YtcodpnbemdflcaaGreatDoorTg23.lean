/-
  An object is made in a heap's copy: contract.
-/
import Derived.Test.YtcodpnbemdflcaaGreatDoorTg22
import Derived.Test.YtcodpnbemdflcaaGreatDoorTg13
namespace Go.Proofs.YtcodpnbemdflcaaGreatDoor
open Go.RowKit
def DoPost (w:World) (base g:Nat) (r:Hp × Int × Int) (e:Ending) (w':World):Prop :=
 ∃ s os,e = .returned (.tuple #[.int .i64 r.2.2, .int .i64 r.2.1])∧CpAt w' base g s os r.1∧Below base w w'
theorem mayTk_room {H:Hp} (k:RightH H) {t:Int} (ht:0≤t):(mayTk H.od H.fr t && roomB H.fr t)=roomB H.fr t:=by
 cases hr:roomB H.fr t with
 | false=>rw [Bool.and_false]
 | true =>
  have:=room_le k.fr hr
  unfold mayTk
  rw [decide_eq_true k.fr,decide_eq_true ht,decide_eq_true this]
  rfl
theorem CpAt.ownne {w:World} {base g:Nat} {s:HSl} {os:List (Ob × OSl)} {H:Hp} (C:CpAt w base g s os H):(∀ k,(Value.slice s.A s.n s.c).ownBlock=some k→some k≠some g)∧(∀ k,(Value.slice s.F s.m s.d).ownBlock=some k→some k≠some g) ∧ ∀ k ∈ blocksOf os,some k≠some g:=by
 refine ⟨fun k hk e => ?_,fun k hk e => ?_,fun k hk e => ?_⟩
 ·injection e with e
  subst e
  obtain ⟨c1,h1⟩:=row_type C.own.objs.row hk
  exact absurd (heap_types C.box h1) (by decide)
 ·injection e with e
  subst e
  obtain ⟨c1,h1⟩:=row_type C.own.free hk
  exact absurd (heap_types C.box h1) (by decide)
 ·injection e with e
  subst e
  obtain ⟨p,hp,e2⟩:=mem_blocks.1 hk
  rcases e2 with e2 | e2
  ·exact C.boxne (C.own.objs.ints p hp).1 e2 rfl
  ·exact C.boxne (C.own.objs.ints p hp).2 e2 rfl
theorem CpAt.setF {w:World} {base g m' d':Nat} {F':Option Addr} {s:HSl} {os:List (Ob × OSl)} {H:Hp} {l:List Blk} (C:CpAt w base g s os H) (hb:base≤w.heap.size) (ho:OwnB 57 w base (.slice F' m' d') l) :
  CpAt (w.setCell ⟨g,7,none⟩ (.slice F' m' d')) base g ⟨s.A,s.n,s.c,F',m',d'⟩ os { H with fr:=l } ∧ Below base w (w.setCell ⟨g,7,none⟩ (.slice F' m' d')):=by
 have gs:=grown_set w g 7 (.slice F' m' d')
 obtain ⟨n1,_,n3⟩:=C.ownne
 have hneF : ∀ k,(Value.slice F' m' d').ownBlock=some k→some k≠some g:=fun k hk e=>by
  injection e with e
  subst e
  obtain ⟨c1,h1⟩:=row_type ho hk
  exact absurd (heap_types C.box h1) (by decide)
 exact ⟨⟨C.box.set 7 (.slice F' m' d'),⟨C.own.objs.grown gs n1 n3,C.own.obs,ho.grown gs hneF,C.own.tp,C.own.nx⟩,C.ge⟩,(Below.refl _ _).grown gs hb fun k hk=>by injection hk with hk;have:=C.ge;omega⟩
theorem CpAt.setO {w:World} {base g n' c':Nat} {A':Option Addr} {s:HSl} {os':List (Ob × OSl)} {H:Hp} (K:Whole w g 76 (hcs H s)) (hg:base≤g) (hb:base≤w.heap.size) (ho:OwnOs 60 3 w base (.slice A' n' c') os') (hf:OwnB 57 w base (.slice s.F s.m s.d) H.fr) (h4:H.tp.length=4) (hn:H.nx≤9223372036854775807) :
  CpAt (w.setCell ⟨g,1,none⟩ (.slice A' n' c')) base g ⟨A',n',c',s.F,s.m,s.d⟩ os' { H with obs:=os'.map (·.1) } ∧ Below base w (w.setCell ⟨g,1,none⟩ (.slice A' n' c')):=by
 have gs:=grown_set w g 1 (.slice A' n' c')
 have h1 : ∀ k,(Value.slice A' n' c').ownBlock=some k→some k≠some g:=fun k hk e=>by
  injection e with e
  subst e
  obtain ⟨c1,h1⟩:=row_type ho.row hk
  exact absurd (heap_types K h1) (by decide)
 have h2 : ∀ k,(Value.slice s.F s.m s.d).ownBlock=some k→some k≠some g:=fun k hk e=>by
  injection e with e
  subst e
  obtain ⟨c1,h1⟩:=row_type hf hk
  exact absurd (heap_types K h1) (by decide)
 have h3 : ∀ k ∈ blocksOf os',some k≠some g:=fun k hk e=>by
  injection e with e
  subst e
  obtain ⟨p,hp,e2⟩:=mem_blocks.1 hk
  have : ∃ c2,w.heap[k]? = some (.cells c2 3 (0,0)):=by
   rcases e2 with e2 | e2
   ·exact row_type (ho.ints p hp).1 e2
   ·exact row_type (ho.ints p hp).2 e2
  obtain ⟨c2,h2⟩:=this
  exact absurd (heap_types K h2) (by decide)
 exact ⟨⟨K.set 1 (.slice A' n' c'),⟨ho.grown gs h1 h3,rfl,hf.grown gs h2,h4,hn⟩,hg⟩,(Below.refl _ _).grown gs hb fun k hk=>by injection hk with hk;omega⟩
theorem CpAt.setN {w:World} {base g:Nat} {s:HSl} {os:List (Ob × OSl)} {H:Hp} (C:CpAt w base g s os H) (hb:base≤w.heap.size) {t:Int} (ht:t≤9223372036854775807) :
  CpAt (w.setCell ⟨g,2,none⟩ (.int .i64 t)) base g s os { H with nx:=t } ∧ Below base w (w.setCell ⟨g,2,none⟩ (.int .i64 t)):=by
 have gs:=grown_set w g 2 (.int .i64 t)
 obtain ⟨n1,n2,n3⟩:=C.ownne
 exact ⟨⟨C.box.set 2 (.int .i64 t),⟨C.own.objs.grown gs n1 n3,C.own.obs,C.own.free.grown gs n2,C.own.tp,ht⟩,C.ge⟩,(Below.refl _ _).grown gs hb fun k hk=>by injection hk with hk;have:=C.ge;omega⟩
theorem CpAt.other {w w':World} {base g r:Nat} {s:HSl} {os:List (Ob × OSl)} {H:Hp} (C:CpAt w base g s os H) (gs:w.grownBy w' (some r)) (h0:g≠r) (h1:(Value.slice s.A s.n s.c).ownBlock≠some r) (h2:(Value.slice s.F s.m s.d).ownBlock≠some r) (h3:r ∉ blocksOf os):CpAt w' base g s os H :=
 ⟨C.box.grown gs h0,⟨C.own.objs.grown gs (fun k hk e=>h1 (hk.trans e)) (fun k hk e=>by injection e with e;subst e;exact h3 hk),C.own.obs,C.own.free.grown gs (fun k hk e=>h2 (hk.trans e)),C.own.tp,C.own.nx⟩,C.ge⟩
theorem take_mem {w W W10:World} {base g m' d':Nat} {F':Option Addr} {s:HSl} {os:List (Ob × OSl)} {H:Hp} {b:Blk} {l:List Blk} (C:CpAt W base g s os H) (hb:base≤W.heap.size) (hw:Below base w W)
  (b10:Below (W.heap.size+1) (W.alloc (.cells #[.int .i64 0, .int .i64 0] 57)) W10) (o10:OwnB 57 W10 (W.heap.size+1) (.slice F' m' d') l) :
  CpAt (((W10.setCell ⟨W.heap.size,0,none⟩ (.int .i64 b.1)).setCell ⟨W.heap.size,1,none⟩ (.int .i64 b.2)).setCell ⟨g,7,none⟩ (.slice F' m' d')) base g ⟨s.A,s.n,s.c,F',m',d'⟩ os { H with fr:=l } ∧
  Whole (((W10.setCell ⟨W.heap.size,0,none⟩ (.int .i64 b.1)).setCell ⟨W.heap.size,1,none⟩ (.int .i64 b.2)).setCell ⟨g,7,none⟩ (.slice F' m' d')) W.heap.size 57 [.int .i64 b.1, .int .i64 b.2] ∧
  Below base w (((W10.setCell ⟨W.heap.size,0,none⟩ (.int .i64 b.1)).setCell ⟨W.heap.size,1,none⟩ (.int .i64 b.2)).setCell ⟨g,7,none⟩ (.slice F' m' d')):=by
 have ba:=(Below.refl W.heap.size W).alloc (Nat.le_refl _) (.cells #[.int .i64 0, .int .i64 0] 57)
 have hsz:(W.alloc (.cells #[.int .i64 0, .int .i64 0] 57)).heap.size=W.heap.size+1:=by simp
 have K:=Whole.new W #[.int .i64 0, .int .i64 0] 57
 have hgl:=C.box.lt
 have hO:(Value.slice s.A s.n s.c).ownBlock≠some W.heap.size:=fun e=>by have:=(C.own.objs.row_lt _ e).2;omega
 have hF:(Value.slice s.F s.m s.d).ownBlock≠some W.heap.size:=fun e=>by have:=(C.own.free.lt _ e).2;omega
 have hI:W.heap.size ∉ blocksOf os:=fun e=>by have:=(C.own.objs.lt _ e).2;omega
 have C1:=(C.below ba).below (by rw [hsz];exact b10)
 have K1:=K.below (by rw [hsz];exact b10)
 have gs:=grown_trans (grown_set W10 W.heap.size 0 (.int .i64 b.1)) (grown_set _ W.heap.size 1 (.int .i64 b.2))
 have hs10:W.heap.size+1≤W10.heap.size:=by have:=b10.size;omega
 have C2:=C1.other gs (by omega) hO hF hI
 have o2:=o10.grown gs (fun k hk e=>by have:=(o10.lt k hk).1;injection e with e;omega)
 have hs2:((W10.setCell ⟨W.heap.size,0,none⟩ (.int .i64 b.1)).setCell ⟨W.heap.size,1,none⟩ (.int .i64 b.2)).heap.size=W10.heap.size:=by simp [World.setCell]
 have C3:=C2.setF (by omega) (o2.mono (by omega))
 have B2:=below_grown ((hw.trans ((ba.trans (b10.mono (by omega))).mono hb))) gs (by omega) hb
 exact ⟨C3.1,((K1.set 0 (.int .i64 b.1)).set 1 (.int .i64 b.2)).grown (grown_set _ g 7 _) (by omega),B2.trans C3.2⟩
theorem ivs_zero (n:Nat):reps n (.int .i64 0)=ivs (List.replicate n 0):=by simp [reps,ivs]
theorem al_mem {V W':World} {base g:Nat} {s:HSl} {os:List (Ob × OSl)} {H:Hp} (C:CpAt V base g s os H) (hb:base≤V.heap.size) (bw:Below V.heap.size V W') (x:Ob) (a:OSl) (hw:OwnV 3 W' V.heap.size a.wv (ivs x.ws)) (hl:OwnV 3 W' V.heap.size a.lv (ivs x.ls)) (hn:(twoB a).Nodup) (hle:os.length+1≤1000000) (ty:TypeId) :
  ∃ A' n' c' w',(Builtin.append_ #[24,24] ty #[.slice s.A s.n s.c, .slice (some ⟨W'.heap.size,0,none⟩) 1 1]).run Tryz.prog (W'.alloc (.cells #[.int .i64 x.hd, .int .i64 x.bl.1, .int .i64 x.bl.2,a.wv,a.lv] 60)) = .ok (.slice A' n' c') w' ∧
   (∃ u,w'.cell? ⟨g,1,none⟩=some u)∧w'.frozen? ⟨g,1,none⟩=false∧CpAt (w'.setCell ⟨g,1,none⟩ (.slice A' n' c')) base g ⟨A',n',c',s.F,s.m,s.d⟩ (os ++ [(x,a)]) { H with obs:=H.obs ++ [x] } ∧ Below base V (w'.setCell ⟨g,1,none⟩ (.slice A' n' c')):=by
 have C':=C.below bw
 have hd : ∀ k ∈ twoB a,k ∉ blocksOf os:=fun k hk e=>by
  have h1:=(C.own.objs.lt k e).2
  rcases mem_two.1 hk with e2 | e2
  ·have:=(hw.lt k e2).1;omega
  ·have:=(hl.lt k e2).1;omega
 obtain ⟨v',w',hap,hrow,hg,_⟩:=run_appO (P:=Tryz.prog) 24 ty Tryz.underlying24 Tryz.infoOb rfl C'.own.objs.row (x,a) hw.oneCell hl.oneCell hle (Nat.le_trans hb bw.size)
 have hos:=C'.own.objs.snoc (by decide) (p:=(x,a)) (hw.mono hb) (hl.mono hb) hn hd hrow hg
 obtain ⟨A',c',hv⟩:=row_shape hrow rfl
 subst hv
 have hneg : ∀ k,(Value.slice s.A s.n s.c).ownBlock=some k→k≠g:=fun k hk e=>(C'.ownne).1 k hk (by rw [e])
 have hgl:=C'.box.lt
 have K':Whole w' g 76 (hcs H s):=C'.box.keep (hg.block g hgl fun e=>hneg g e.symm rfl)
 have hF:OwnB 57 w' base (.slice s.F s.m s.d) H.fr:=C'.own.free.keep fun k hk=>hg.block k (C'.own.free.lt k hk).2 fun e=>by
  obtain ⟨c1,h1⟩:=row_type C'.own.objs.row e.symm
  obtain ⟨c2,h2⟩:=row_type C'.own.free hk
  exact absurd (heap_types h1 h2) (by decide)
 have hbw':Below base V w':=(bw.mono hb).grown hg (Nat.le_trans hb bw.size) fun k hk=>(C'.own.objs.row_lt k hk).1
 obtain ⟨r1,r2⟩:=CpAt.setO (H:=H) K' C.ge (Nat.le_trans hb (Nat.le_trans bw.size hg.size)) hos hF C.own.tp C.own.nx
 rw [List.map_append] at r1
 refine ⟨A',_,c',w',hap,⟨_,K'.cell 1⟩,K'.free 1,?_,hbw'.trans r2⟩
 rw [C.own.obs]
 exact r1
theorem two_made (V:World) (n1 n2:Nat) (h1:n1≤1000) (h2:n2≤1000) :
  Below V.heap.size V ((V.alloc (.cells (reps n1 (.int .i64 0)).toArray 3)).alloc (.cells (reps n2 (.int .i64 0)).toArray 3)).drew ∧
  OwnV 3 ((V.alloc (.cells (reps n1 (.int .i64 0)).toArray 3)).alloc (.cells (reps n2 (.int .i64 0)).toArray 3)).drew V.heap.size (.slice (some ⟨V.heap.size,0,none⟩) n1 n1) (ivs (List.replicate n1 0)) ∧
  OwnV 3 ((V.alloc (.cells (reps n1 (.int .i64 0)).toArray 3)).alloc (.cells (reps n2 (.int .i64 0)).toArray 3)).drew V.heap.size (.slice (some ⟨V.heap.size+1,0,none⟩) n2 n2) (ivs (List.replicate n2 0)) ∧
  ((V.alloc (.cells (reps n1 (.int .i64 0)).toArray 3)).alloc (.cells (reps n2 (.int .i64 0)).toArray 3)).drew.heap.size=V.heap.size+1+1:=by
 have hz:(V.alloc (.cells (reps n1 (.int .i64 0)).toArray 3)).heap.size=V.heap.size+1:=by simp
 have k1:=((Whole.new V (reps n1 (.int .i64 0)).toArray 3).alloc (.cells (reps n2 (.int .i64 0)).toArray 3)).drew
 have k2:=(Whole.new (V.alloc (.cells (reps n1 (.int .i64 0)).toArray 3)) (reps n2 (.int .i64 0)).toArray 3).drew
 rw [hz] at k2
 have o1:=k1.own (base:=V.heap.size) (Nat.le_refl _) (by rw [reps_length];simp only [maxLen];omega)
 have o2:=k2.own (base:=V.heap.size) (by omega) (by rw [reps_length];simp only [maxLen];omega)
 rw [reps_length,ivs_zero] at o1 o2
 exact ⟨(((Below.refl _ _).alloc (Nat.le_refl _) _).alloc (by rw [hz];omega) _).drew,by rw [ivs_zero,ivs_zero] at *;exact o1,by rw [ivs_zero,ivs_zero] at *;exact o2,by simp [World.drew]⟩
set_option maxRecDepth 100000 in
set_option maxHeartbeats 4000000 in
theorem alloc_any (base g:Nat) (s:HSl) (os:List (Ob × OSl)) (H:Hp) (o:Opn) (w:World) (C:CpAt w base g s os H) (hR:RightH H) (hT:Tab w) (hm:s.m≤1000) (hn:s.n≤1000) (hb:base≤w.heap.size) (ho:o.k=1) :
  Calls Tryz.prog 45 #[.pointer (some ⟨g,0,none⟩), .int .i64 o.n, .int .i64 o.kk] w (DoPost w base g (doneH H o)):=by
 have HD:=Lib.hid (doneH_alloc (h:=H) ho)
 have S1:=fun W=>need_any o.n o.kk W
 have hN:=needI_bd o.n o.kk
 have HC:=Lib.hid C
 have HR:=Lib.hid hR
 have hnx:=hR.nx
 have hAC:=allocH_cases hR o.n o.kk
 clear ho
 obtain ⟨A,n,c,F,m,d⟩:=s
 have hbox:=C.box
 simp only [hcs] at hbox
 obtain ⟨c0,c1,c2,c3,c4,c5,c6,c7⟩:=hbox.eight
 clear hbox
 simp only at hm hn
 rcases hAC with ⟨hneg,hac⟩ | ⟨hpos,hbig,hac⟩ | ⟨hpos,hle,hroom,hac⟩ | ⟨hpos,hle,hroom,b,ml,htk,hac⟩
 ·have Hr:=Lib.hid (show doneH H o=(H,53,0) by rw [HD.out,hac])
  have hN1:needI o.n o.kk = -1:=by omega
  rw [hN1] at S1
  clear hac hN1 hneg C hT hR hN
  go_enter Tryz.func45,Tryz.ntmps45
  go_wp2_with (go_at_call 83;refine (S1 _).mono ?_;rintro e w2 ⟨rfl,rfl⟩)
  go_ret2
  rw [Hr.out]
  exact ⟨_,os,rfl,HC.out,Below.refl _ _⟩
 ·have Hr:=Lib.hid (show doneH H o=(H,2,0) by rw [HD.out,hac])
  obtain ⟨N,hNe⟩ : ∃ N,N=needI o.n o.kk:=⟨_,rfl⟩
  rw [← hNe] at S1 hpos
  have dN:decide (N < 0)=false:=decide_eq_false (by omega)
  have dX:decide (1000000 < H.nx)=true:=decide_eq_true hbig
  clear hac C hT hR hN hNe
  go_enter Tryz.func45,Tryz.ntmps45
  go_wp2_with (go_at_call 83;refine (S1 _).mono ?_;rintro e w2 ⟨rfl,rfl⟩)
  go_ret2
  rw [Hr.out]
  exact ⟨_,os,rfl,HC.out,Below.refl _ _⟩
 ·have Hr:=Lib.hid (show doneH H o=(H,50,0) by rw [HD.out,hac])
  obtain ⟨N,hNe⟩ : ∃ N,N=needI o.n o.kk:=⟨_,rfl⟩
  rw [← hNe] at S1 hpos hroom
  have dN:decide (N < 0)=false:=decide_eq_false (by omega)
  have dX:decide (1000000 < H.nx)=false:=decide_eq_false (by omega)
  have S2:=fun (W:World) (b:Below w.heap.size w W)=>room_any H.od F m d H.fr N W (C.own.rd.fr.below b) hm (hT.below b)
  rw [mayTk_room hR hpos,hroom] at S2
  have HS2:=Lib.hid S2
  clear hac C hT hR hN hNe S2 hroom
  go_enter Tryz.func45,Tryz.ntmps45
  go_upto_region 7 with (go_at_call 83;refine (S1 _).mono ?_;rintro e w2 ⟨rfl,rfl⟩)
  go_cut [35] (fun v wc=>v = .bool true∧Below w.heap.size w wc)
  case first =>
   go_region_with (go_at_call 84;refine (HS2.out _ (by first | exact Below.refl _ _ | exact (Below.refl _ _).drew)).mono ?_;rintro e W8 ⟨rfl,b8⟩;have bd:Below w.heap.size w W8:=(Below.refl _ _).drew.trans b8)
   all_goals
    go_wp2_with fail
    go_meet
    exact ⟨rfl,bd⟩
  case rest =>
   obtain ⟨rfl,bd⟩:=hcut
   go_wp2_with fail
   go_ret2
   rw [Hr.out]
   exact ⟨_,os,rfl,HC.out.below bd,bd.mono hb⟩
 ·have Hr:=Lib.hid (show doneH H o=({ H with obs:=H.obs ++ [⟨H.nx,b,List.replicate o.n.toNat 0,List.replicate o.kk.toNat 0⟩],nx:=H.nx+1,fr:=ml },0,H.nx) by rw [HD.out,hac])
  have hin:=needI_in hpos
  obtain ⟨N,hNe⟩ : ∃ N,N=needI o.n o.kk:=⟨_,rfl⟩
  rw [← hNe] at S1 hpos hroom htk
  have dN:decide (N < 0)=false:=decide_eq_false (by omega)
  have dX:decide (1000000 < H.nx)=false:=decide_eq_false (by omega)
  have hmr:=mayTk_room hR hpos
  rw [hroom] at hmr
  have S2:=fun (W:World) (bl:Below w.heap.size w W)=>room_any H.od F m d H.fr N W (C.own.rd.fr.below bl) hm (hT.below bl)
  rw [hroom,hmr] at S2
  have S3 : ∀ (W:World) (bl:Below w.heap.size w W),Calls Tryz.prog 85 #[.int .i64 H.od, .slice F m d, .int .i64 N] W fun e w' => ∃ F' m' d',e = .returned (.tuple #[.agg #[.int .i64 b.1, .int .i64 b.2], .slice F' m' d', .int .i64 0])∧OwnB 57 w' W.heap.size (.slice F' m' d') ml∧Below W.heap.size W w':=fun W bl=>(take_any H.od F m d H.fr N W (C.own.rd.fr.below bl) hm (hT.below bl)).mono fun e w' h=>by
   obtain ⟨b',m2,er,v,rfl,hres,ho,hbl⟩:=h
   obtain ⟨rfl,rfl,rfl⟩:=hres.eq (.inr (.inr ⟨by rw [Bool.and_eq_true] at hmr;exact hmr.1,hroom,rfl,htk⟩))
   obtain ⟨F',d',rfl,_⟩:=ho.shape rfl
   exact ⟨F',_,d',rfl,ho,hbl⟩
  have HS2:=Lib.hid S2
  have HS3:=Lib.hid S3
  have Hok:=Lib.hid (And.intro hR.nx.1 hle)
  clear hac C hT hR hN hNe S2 S3 hroom hmr htk
  obtain ⟨n1,hn1⟩:=Int.eq_ofNat_of_zero_le hin.1
  obtain ⟨n2,hn2⟩:=Int.eq_ofNat_of_zero_le hin.2.2.1
  rw [hn1,hn2] at S1 Hr ⊢
  rw [Int.toNat_natCast,Int.toNat_natCast] at Hr
  have h32:n1≤32:=by omega
  have h16:n2≤16:=by omega
  clear hin hn1 hn2
  go_enter Tryz.func45,Tryz.ntmps45
  go_upto_region 7 with (go_at_call 83;refine (S1 _).mono ?_;rintro e w2 ⟨rfl,rfl⟩)
  go_cut [35] (fun v wc=>v = .bool false∧Below w.heap.size w wc)
  case first =>
   go_region_with (go_at_call 84;refine (HS2.out _ (by first | exact Below.refl _ _ | exact (Below.refl _ _).drew)).mono ?_;rintro e W8 ⟨rfl,b8⟩;have bd:Below w.heap.size w W8:=(Below.refl _ _).drew.trans b8)
   all_goals
    go_wp2_with fail
    go_meet
    exact ⟨rfl,bd⟩
  case rest =>
   obtain ⟨rfl,bd⟩:=hcut
   clear c0 c1 c2 c3 c4 c5 c6 c7 S1 HS2
   go_upto_region 10 with (fail)
   have C8:=HC.out.below bd
   have hbc:base≤wc.heap.size:=Nat.le_trans hb bd.size
   have ba:=(Below.refl wc.heap.size wc).alloc (Nat.le_refl _) (.cells #[.int .i64 0, .int .i64 0] 57)
   have C9:=C8.below ba
   have KB:=Whole.new wc #[.int .i64 0, .int .i64 0] 57
   have hgl:g < wc.heap.size:=C8.box.lt
   have hz9:(wc.alloc (.cells #[.int .i64 0, .int .i64 0] 57)).heap.size=wc.heap.size+1:=by simp
   have TM:=Lib.hid fun (W10:World) (F':Option Addr) (m' d':Nat) b10 o10=>take_mem (w:=w) (W10:=W10) (F':=F') (m':=m') (d':=d') (b:=b) (l:=ml) C8 hbc (bd.mono hb) b10 o10
   have Bd9:=Lib.hid (bd.trans (ba.mono bd.size))
   have Hz9:=Lib.hid hz9
   obtain ⟨kb,hkb⟩ : ∃ kb,kb=wc.heap.size:=⟨_,rfl⟩
   rw [← hkb] at KB TM hgl Hz9 ⊢
   have hbox:=C9.box
   simp only [hcs] at hbox
   generalize wc.alloc (.cells _ 57)=W9 at C9 KB TM Bd9 Hz9 hbox ⊢
   obtain ⟨c0,c1,c2,c3,c4,c5,c6,c7⟩:=hbox.eight
   have C9H:=Lib.hid C9
   have KBH:=Lib.hid KB
   have HKB:=Lib.hid hkb
   have HBX:=Lib.hid hbox
   clear C9 KB hbox hkb C8 ba bd hbc hz9 c1 c2 c3 c4 c5 c6
   go_cut [35] (fun v wc2=>v = .bool false ∧ ∃ F' m' d',CpAt wc2 base g ⟨A,n,c,F',m',d'⟩ os { H with fr:=ml } ∧ Whole wc2 kb 57 [.int .i64 b.1, .int .i64 b.2]∧Below base w wc2∧base≤wc2.heap.size)
   case first =>
    go_region_with (go_at_call 85;refine (HS3.out _ (by first | exact Bd9.out | exact Bd9.out.drew)).mono ?_;rintro e W10 ⟨F',m',d',rfl,o10,b10⟩;have bx:Below W9.heap.size W9 W10:=(Below.refl _ _).drew.trans b10;obtain ⟨x0,x1⟩:=And.intro ((KBH.out.below bx).cell 0) ((KBH.out.below bx).cell 1);have x7:=(HBX.out.below bx).cell 7;simp only [List.getElem?_cons_succ,List.getElem?_cons_zero] at x0 x1 x7;have fx:=(KBH.out.below bx).free;have fg:=(HBX.out.below bx).free;have hne:g≠kb:=by omega)
    all_goals
     change OwnB 57 W10 W9.heap.size _ _ at o10
     rw [Hz9.out] at o10
     rw [Hz9.out] at bx
     have hfin:=TM.out W10 F' m' d' bx o10
     clear o10 bx
     go_wp2_with fail
     go_meet
     exact ⟨rfl,F',m',d',hfin.1,hfin.2.1,hfin.2.2,Nat.le_trans hfin.1.ge (Nat.le_of_lt hfin.1.box.lt)⟩
   case rest =>
    obtain ⟨rfl,F',m',d',C11,KB11,B11,hbV⟩:=hcut
    clear c0 c7 C9H KBH HBX TM HKB Bd9 Hz9 hgl HS3
    have hbox:=C11.box
    simp only [hcs] at hbox
    obtain ⟨c0,c1,c2,c3,c4,c5,c6,c7⟩:=hbox.eight
    obtain ⟨x0,x1⟩:=And.intro (KB11.cell 0) (KB11.cell 1)
    simp only [List.getElem?_cons_succ,List.getElem?_cons_zero] at x0 x1
    have mk1:=fun W=>run_makeV (P:=Tryz.prog) Tryz.underlying58 Tryz.infoInt rfl n1 (by omega) (by omega) W
    have mk2:=fun W=>run_makeV (P:=Tryz.prog) Tryz.underlying58 Tryz.infoInt rfl n2 (by omega) (by omega) W
    have mixed:=mixedP
    have C11H:=Lib.hid C11
    have B11H:=Lib.hid B11
    have HBX:=Lib.hid hbox
    obtain ⟨t1,t2,t3,t4⟩:=two_made wc n1 n2 (by omega) (by omega)
    obtain ⟨u1,u2,u3,u4⟩:=two_made wc n2 n1 (by omega) (by omega)
    have hlos:os.length+1≤1000000:=by have:=HR.out.len;rw [HC.out.own.obs,List.length_map] at this;omega
    obtain ⟨A1,q1,e1,w1,hap1,⟨z1,hc1⟩,hf1,hfin1⟩:=al_mem C11 hbV t1 ⟨H.nx,b,List.replicate n1 0,List.replicate n2 0⟩ ⟨.slice (some ⟨wc.heap.size,0,none⟩) n1 n1, .slice (some ⟨wc.heap.size+1,0,none⟩) n2 n2⟩ t2 t3 (by unfold twoB;exact nodup_two fun i j hi hj=>by simp [Value.ownBlock] at hi hj;omega) hlos 24
    obtain ⟨A2,q2,e2,w2',hap2,⟨z2,hc2⟩,hf2,hfin2⟩:=al_mem C11 hbV u1 ⟨H.nx,b,List.replicate n1 0,List.replicate n2 0⟩ ⟨.slice (some ⟨wc.heap.size+1,0,none⟩) n1 n1, .slice (some ⟨wc.heap.size,0,none⟩) n2 n2⟩ u3 u2 (by unfold twoB;exact nodup_two fun i j hi hj=>by simp [Value.ownBlock] at hi hj;omega) hlos 24
    rw [t4] at hap1
    rw [u4] at hap2
    have kbl:=KB11.lt
    have gl:=C11.box.lt
    have y0 : ∀ o,(wc.alloc o).cell? ⟨kb,0,none⟩=some (.int .i64 b.1):=fun o=>(KB11.alloc o).cell 0
    have y1 : ∀ o,(wc.alloc o).cell? ⟨kb,1,none⟩=some (.int .i64 b.2):=fun o=>(KB11.alloc o).cell 1
    have y2 : ∀ o o',((wc.alloc o).alloc o').cell? ⟨kb,0,none⟩=some (.int .i64 b.1):=fun o o'=>((KB11.alloc o).alloc o').cell 0
    have y3 : ∀ o o',((wc.alloc o).alloc o').cell? ⟨kb,1,none⟩=some (.int .i64 b.2):=fun o o'=>((KB11.alloc o).alloc o').cell 1
    have y4 : ∀ o,(wc.alloc o).cell? ⟨g,1,none⟩=some (.slice A n c):=fun o=>(hbox.alloc o).cell 1
    have y5 : ∀ o o',((wc.alloc o).alloc o').cell? ⟨g,1,none⟩=some (.slice A n c):=fun o o'=>((hbox.alloc o).alloc o').cell 1
    have y6 : ∀ o o' o'',(((wc.alloc o).alloc o').alloc o'').cell? ⟨g,1,none⟩=some (.slice A n c):=fun o o' o''=>(((hbox.alloc o).alloc o').alloc o'').cell 1
    have Hfin1:=Lib.hid hfin1
    have Hfin2:=Lib.hid hfin2
    clear C11 B11 hbox KB11 c0 c3 c4 c5 c6 c7 t1 t2 t3 t4 u1 u2 u3 u4 hfin1 hfin2
    simp only at hap1 hap2
    go_upto_region 11 with (fail)
    go_cut [35] (fun v wc3=>v = .bool false ∧ ∃ s3 os3,CpAt wc3 base g s3 os3 { H with obs:=H.obs ++ [⟨H.nx,b,List.replicate n1 0,List.replicate n2 0⟩],fr:=ml } ∧ Below base wc wc3)
    case first =>
     go_region_law (first | (refine step_append_run hap1 rfl (.tmp 61) (.tmp 69) rfl rfl rfl rfl ?_) | (refine step_append_run hap2 rfl (.tmp 61) (.tmp 69) rfl rfl rfl rfl ?_))
     all_goals
      go_wp2_with fail
      go_meet
      first
       | exact ⟨rfl,_,_,Hfin1.out.1,Hfin1.out.2⟩
       | exact ⟨rfl,_,_,Hfin2.out.1,Hfin2.out.2⟩
    case rest =>
     obtain ⟨rfl,s3,os3,C3,B3⟩:=hcut
     have hb3:base≤wc.heap.size:=Nat.le_trans C3.ge (Nat.le_of_lt C3.box.lt)
     obtain ⟨A3,p3,e3,F3,m3,d3⟩:=s3
     have hbox:=C3.box
     simp only [hcs] at hbox
     have x2:=hbox.cell 2
     simp only [List.getElem?_cons_succ,List.getElem?_cons_zero] at x2
     have f2:=hbox.free 2
     have Hs:=Lib.hid (C3.setN hb3 (t:=H.nx+1) (by omega))
     have HB:=Lib.hid (B11H.out.trans B3)
     have hw:IntKind.i64.wrap (H.nx+1)=H.nx+1:=by rw [IntKind.wrap_i64];omega
     clear C3 B3 hbox y0 y1 y2 y3 y4 y5 y6 hc1 hc2 hf1 hf2 hap1 hap2 Hfin1 Hfin2 mk1 mk2 x0 x1 c1 c2
     go_wp2_with fail
     go_ret2
     rw [Hr.out]
     exact ⟨_,os3,rfl,Hs.out.1,HB.out.trans Hs.out.2⟩
end Go.Proofs.YtcodpnbemdflcaaGreatDoor

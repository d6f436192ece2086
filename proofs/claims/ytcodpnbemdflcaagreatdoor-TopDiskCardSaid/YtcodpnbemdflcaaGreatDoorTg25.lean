/-
  An operation is done on a heap's copy; what an operation makes of a heap: contracts.
  What an operation makes of a heap: contract of Do.
  Worlds and boxes behind a region that draws its order: found by taking the world apart.
-/
import Derived.Test.YtcodpnbemdflcaaGreatDoorTg24
import Derived.Deep.RegionHeld3
namespace Go.Proofs.YtcodpnbemdflcaaGreatDoor
open Go.RowKit
theorem Whole.seven {w:World} {g:Nat} {t:TypeId} {a0 a1 a2 a3 a4 a5 a6:Value} (h:Whole w g t [a0,a1,a2,a3,a4,a5,a6]) :
  w.cell? ⟨g,0,none⟩=some a0∧w.cell? ⟨g,1,none⟩=some a1∧w.cell? ⟨g,2,none⟩=some a2∧w.cell? ⟨g,3,none⟩=some a3∧w.cell? ⟨g,4,none⟩=some a4∧w.cell? ⟨g,5,none⟩=some a5∧w.cell? ⟨g,6,none⟩=some a6 :=
 ⟨h.cell 0,h.cell 1,h.cell 2,h.cell 3,h.cell 4,h.cell 5,h.cell 6⟩
structure DoPre (w:World) (base g:Nat) (s:HSl) (os:List (Ob × OSl)) (H:Hp):Prop where
 at_:CpAt w base g s os H
 right:RightH H
 tab:Tab w
 m:s.m≤1000
 hb:base≤w.heap.size
theorem DoPre.n {w:World} {base g:Nat} {s:HSl} {os:List (Ob × OSl)} {H:Hp} (h:DoPre w base g s os H):s.n≤1000:=by
 have h1:=h.at_.own.rd.obs.len
 have h2:=h.right.len
 omega
theorem DoPre.below {w w':World} {base g:Nat} {s:HSl} {os:List (Ob × OSl)} {H:Hp} (h:DoPre w base g s os H) (b:Below w.heap.size w w'):DoPre w' base g s os H:=⟨h.at_.below b,h.right,h.tab.below b,h.m,Nat.le_trans h.hb b.size⟩
theorem DoPre.ls {w:World} {base g:Nat} {s:HSl} {os:List (Ob × OSl)} {H:Hp} (h:DoPre w base g s os H) : ∀ x ∈ H.obs,x.ls.length≤1000:=fun x hx=>by
 have h1:=(h.right.ok x hx).2.2
 have h2:=needI_in (w:=x.ws.length) (l:=x.ls.length) (by rw [h1.1];exact h1.2.1.1)
 omega
set_option maxRecDepth 100000 in
set_option maxHeartbeats 2000000 in
theorem do_1 (base g:Nat) (s:HSl) (os:List (Ob × OSl)) (H:Hp) (h i n kk v t:Int) (w:World) (P:DoPre w base g s os H) :
  Calls Tryz.prog 23 #[.pointer (some ⟨g,0,none⟩),opv ⟨1,h,i,n,kk,v,t⟩] w (DoPost w base g (doneH H ⟨1,h,i,n,kk,v,t⟩)):=by
 have P1:=P.below ((Below.refl w.heap.size w).alloc (Nat.le_refl _) (.cells #[.int .i64 1, .int .i64 h, .int .i64 i, .int .i64 n, .int .i64 kk, .int .i64 v, .int .i64 t] 45))
 have b1:=((Below.refl w.heap.size w).alloc (Nat.le_refl _) (.cells #[.int .i64 1, .int .i64 h, .int .i64 i, .int .i64 n, .int .i64 kk, .int .i64 v, .int .i64 t] 45)).mono P.hb
 have Hb1:=Lib.hid b1
 have S:=alloc_any base g s os H ⟨1,h,i,n,kk,v,t⟩ _ P1.at_ P1.right P1.tab P1.m P1.n P1.hb rfl
 generalize doneH H ⟨1,h,i,n,kk,v,t⟩=r at S ⊢
 unfold opv opcs
 clear P P1 b1
 simp only at S ⊢
 go_enter Tryz.func23,Tryz.ntmps23
 go_wp2_with (go_at_call 45;refine S.mono ?_;rintro e w2 ⟨s2,os2,rfl,C2,b2⟩)
 go_ret2
 exact ⟨s2,os2,rfl,C2,Hb1.out.trans b2⟩
theorem doneH_zero {H:Hp} (k:RightH H) {o:Opn} (ho:o.k=2∨o.k=3∨o.k=4∨o.k=5):(doneH H o).2.2=0:=by
 rcases doneH_keeps k o with ⟨_,h2,h3⟩ | ⟨_,h2,_⟩ | ⟨_,_,h2,_⟩
 ·by_cases hc:(doneH H o).2.1=0
  ·have:=h3 hc;omega
  ·exact h2 hc
 ·omega
 ·exact h2
set_option maxRecDepth 100000 in
set_option maxHeartbeats 2000000 in
theorem do_2 (base g:Nat) (s:HSl) (os:List (Ob × OSl)) (H:Hp) (h i n kk v t:Int) (w:World) (P:DoPre w base g s os H) :
  Calls Tryz.prog 23 #[.pointer (some ⟨g,0,none⟩),opv ⟨2,h,i,n,kk,v,t⟩] w (DoPost w base g (doneH H ⟨2,h,i,n,kk,v,t⟩)):=by
 have P1:=P.below ((Below.refl w.heap.size w).alloc (Nat.le_refl _) (.cells #[.int .i64 2, .int .i64 h, .int .i64 i, .int .i64 n, .int .i64 kk, .int .i64 v, .int .i64 t] 45))
 have b1:=((Below.refl w.heap.size w).alloc (Nat.le_refl _) (.cells #[.int .i64 2, .int .i64 h, .int .i64 i, .int .i64 n, .int .i64 kk, .int .i64 v, .int .i64 t] 45)).mono P.hb
 have Hb1:=Lib.hid b1
 have S:=drop_any base g s os H ⟨2,h,i,n,kk,v,t⟩ _ P1.at_ P1.right P1.tab P1.m P1.n P1.hb rfl P1.ls
 have hz:=Lib.hid (doneH_zero P.right (o:=⟨2,h,i,n,kk,v,t⟩) (by simp))
 generalize doneH H ⟨2,h,i,n,kk,v,t⟩=r at S hz ⊢
 unfold opv opcs
 clear P P1 b1
 simp only at S ⊢
 go_enter Tryz.func23,Tryz.ntmps23
 go_wp2_with (go_at_call 46;refine S.mono ?_;rintro e w2 ⟨s2,os2,rfl,C2,b2⟩)
 go_ret2
 exact ⟨s2,os2,by rw [hz.out];rfl,C2,Hb1.out.trans b2⟩
set_option maxRecDepth 100000 in
set_option maxHeartbeats 2000000 in
theorem do_3 (base g:Nat) (s:HSl) (os:List (Ob × OSl)) (H:Hp) (h i n kk v t:Int) (w:World) (P:DoPre w base g s os H) :
  Calls Tryz.prog 23 #[.pointer (some ⟨g,0,none⟩),opv ⟨3,h,i,n,kk,v,t⟩] w (DoPost w base g (doneH H ⟨3,h,i,n,kk,v,t⟩)):=by
 have P1:=P.below ((Below.refl w.heap.size w).alloc (Nat.le_refl _) (.cells #[.int .i64 3, .int .i64 h, .int .i64 i, .int .i64 n, .int .i64 kk, .int .i64 v, .int .i64 t] 45))
 have b1:=((Below.refl w.heap.size w).alloc (Nat.le_refl _) (.cells #[.int .i64 3, .int .i64 h, .int .i64 i, .int .i64 n, .int .i64 kk, .int .i64 v, .int .i64 t] 45)).mono P.hb
 have Hb1:=Lib.hid b1
 have S:=write_any base g s os H ⟨3,h,i,n,kk,v,t⟩ _ P1.at_ P1.right.rise P1.n P1.hb rfl
 have hz:=Lib.hid (doneH_zero P.right (o:=⟨3,h,i,n,kk,v,t⟩) (by simp))
 generalize doneH H ⟨3,h,i,n,kk,v,t⟩=r at S hz ⊢
 unfold opv opcs
 clear P P1 b1
 simp only at S ⊢
 go_enter Tryz.func23,Tryz.ntmps23
 go_wp2_with (go_at_call 47;refine S.mono ?_;rintro e w2 ⟨s2,os2,rfl,C2,b2⟩)
 go_ret2
 exact ⟨s2,os2,by rw [hz.out];rfl,C2,Hb1.out.trans b2⟩
set_option maxRecDepth 100000 in
set_option maxHeartbeats 2000000 in
theorem do_4 (base g:Nat) (s:HSl) (os:List (Ob × OSl)) (H:Hp) (h i n kk v t:Int) (w:World) (P:DoPre w base g s os H) :
  Calls Tryz.prog 23 #[.pointer (some ⟨g,0,none⟩),opv ⟨4,h,i,n,kk,v,t⟩] w (DoPost w base g (doneH H ⟨4,h,i,n,kk,v,t⟩)):=by
 have P1:=P.below ((Below.refl w.heap.size w).alloc (Nat.le_refl _) (.cells #[.int .i64 4, .int .i64 h, .int .i64 i, .int .i64 n, .int .i64 kk, .int .i64 v, .int .i64 t] 45))
 have b1:=((Below.refl w.heap.size w).alloc (Nat.le_refl _) (.cells #[.int .i64 4, .int .i64 h, .int .i64 i, .int .i64 n, .int .i64 kk, .int .i64 v, .int .i64 t] 45)).mono P.hb
 have Hb1:=Lib.hid b1
 have S:=lead_any base g s os H ⟨4,h,i,n,kk,v,t⟩ _ P1.at_ P1.right.rise P1.n P1.hb rfl
 have hz:=Lib.hid (doneH_zero P.right (o:=⟨4,h,i,n,kk,v,t⟩) (by simp))
 generalize doneH H ⟨4,h,i,n,kk,v,t⟩=r at S hz ⊢
 unfold opv opcs
 clear P P1 b1
 simp only at S ⊢
 go_enter Tryz.func23,Tryz.ntmps23
 go_wp2_with (go_at_call 48;refine S.mono ?_;rintro e w2 ⟨s2,os2,rfl,C2,b2⟩)
 go_ret2
 exact ⟨s2,os2,by rw [hz.out];rfl,C2,Hb1.out.trans b2⟩
set_option maxRecDepth 100000 in
set_option maxHeartbeats 2000000 in
theorem do_5 (base g:Nat) (s:HSl) (os:List (Ob × OSl)) (H:Hp) (h i n kk v t:Int) (w:World) (P:DoPre w base g s os H) :
  Calls Tryz.prog 23 #[.pointer (some ⟨g,0,none⟩),opv ⟨5,h,i,n,kk,v,t⟩] w (DoPost w base g (doneH H ⟨5,h,i,n,kk,v,t⟩)):=by
 have P1:=P.below ((Below.refl w.heap.size w).alloc (Nat.le_refl _) (.cells #[.int .i64 5, .int .i64 h, .int .i64 i, .int .i64 n, .int .i64 kk, .int .i64 v, .int .i64 t] 45))
 have b1:=((Below.refl w.heap.size w).alloc (Nat.le_refl _) (.cells #[.int .i64 5, .int .i64 h, .int .i64 i, .int .i64 n, .int .i64 kk, .int .i64 v, .int .i64 t] 45)).mono P.hb
 have Hb1:=Lib.hid b1
 have S:=leadTop_any base g s os H ⟨5,h,i,n,kk,v,t⟩ _ P1.at_ P1.right.rise P1.n P1.hb rfl
 have hz:=Lib.hid (doneH_zero P.right (o:=⟨5,h,i,n,kk,v,t⟩) (by simp))
 generalize doneH H ⟨5,h,i,n,kk,v,t⟩=r at S hz ⊢
 unfold opv opcs
 clear P P1 b1
 simp only at S ⊢
 go_enter Tryz.func23,Tryz.ntmps23
 go_wp2_with (go_at_call 49;refine S.mono ?_;rintro e w2 ⟨s2,os2,rfl,C2,b2⟩)
 go_ret2
 exact ⟨s2,os2,by rw [hz.out];rfl,C2,Hb1.out.trans b2⟩
theorem spot_read {w:World} {base g:Nat} {s:HSl} {os:List (Ob × OSl)} {H:Hp} {links:Bool} {h i:Int} {f:FuncId} {args:Array Value} (C:CpAt w base g s os H) (S:Calls Tryz.prog f args w (SpotPost w base os H links h i)) :
  ((readH H links h i).1≠0∧(readH H links h i).2=0∧Calls Tryz.prog f args w fun e w'=>e = .returned (.tuple #[.pointer none, .int .i64 (readH H links h i).1])∧Grew w w') ∨
  ((readH H links h i).1=0∧Calls Tryz.prog f args w fun e w' => ∃ gw j:Nat,e = .returned (.tuple #[.pointer (some ⟨gw,j,none⟩), .int .i64 0])∧Grew w w'∧w'.cell? ⟨gw,j,none⟩=some (.int .i64 (readH H links h i).2)):=by
 unfold readH
 cases hf:findO H.obs h with
 | none =>
  refine .inl ⟨by simp,rfl,S.mono fun e w' hp => ?_⟩
  obtain ⟨g2,⟨_,he⟩ | ⟨p,q,hf2,_⟩⟩:=hp
  ·exact ⟨he,g2⟩
  ·rw [hf] at hf2;cases hf2
 | some pq =>
  obtain ⟨p,x⟩:=pq
  simp only
  by_cases hi:0≤i∧i < ((if links then x.ls else x.ws).length:Int)
  ·rw [if_pos hi]
   refine .inr ⟨rfl,S.mono fun e w' hp => ?_⟩
   obtain ⟨g2,⟨hf2,_⟩ | ⟨p2,q,hf2,hq,⟨hi2,_⟩ | ⟨j,gw,n,c,hij,hj,hn,hv,hgw,he⟩⟩⟩:=hp
   ·rw [hf] at hf2;cases hf2
   ·rw [hf] at hf2
    injection hf2 with hf2
    injection hf2 with e1 e2
    rw [← e2] at hi2
    exact absurd hi hi2
   ·rw [hf] at hf2
    injection hf2 with hf2
    injection hf2 with e1 e2
    rw [e2]
    have hii:=(C.below g2.below).own.objs.ints q (List.mem_of_getElem? hq)
    refine ⟨gw,j,he,g2,?_⟩
    have key : ∃ y,(if links then q.1.ls else q.1.ws)[j]? = some y∧w'.cell? ⟨gw,j,none⟩=some (.int .i64 y):=by
     cases links with
     | true=>exact (own_spot hii.2 (by simpa using hv) (by simpa using hn) hj).1
     | false=>exact (own_spot hii.1 (by simpa using hv) (by simpa using hn) hj).1
    obtain ⟨y,hy,hc⟩:=key
    rw [hc,hij,Int.toNat_natCast,List.getD_eq_getElem?_getD,hy]
    rfl
  ·rw [if_neg hi]
   refine .inl ⟨by decide,rfl,S.mono fun e w' hp => ?_⟩
   obtain ⟨g2,⟨hf2,_⟩ | ⟨p2,q,hf2,hq,⟨hi2,he⟩ | ⟨j,gw,n,c,hij,hj,hn,hv,hgw,he⟩⟩⟩:=hp
   ·rw [hf] at hf2;cases hf2
   ·exact ⟨he,g2⟩
   ·rw [hf] at hf2
    injection hf2 with hf2
    injection hf2 with e1 e2
    rw [e2] at hi
    exact absurd ⟨by omega,by omega⟩ hi
set_option maxRecDepth 100000 in
set_option maxHeartbeats 2000000 in
theorem do_6 (base g:Nat) (s:HSl) (os:List (Ob × OSl)) (H:Hp) (h i n kk v t:Int) (w:World) (P:DoPre w base g s os H) :
  Calls Tryz.prog 23 #[.pointer (some ⟨g,0,none⟩),opv ⟨6,h,i,n,kk,v,t⟩] w (DoPost w base g (doneH H ⟨6,h,i,n,kk,v,t⟩)):=by
 have P1:=P.below ((Below.refl w.heap.size w).alloc (Nat.le_refl _) (.cells #[.int .i64 6, .int .i64 h, .int .i64 i, .int .i64 n, .int .i64 kk, .int .i64 v, .int .i64 t] 45))
 have b1:=((Below.refl w.heap.size w).alloc (Nat.le_refl _) (.cells #[.int .i64 6, .int .i64 h, .int .i64 i, .int .i64 n, .int .i64 kk, .int .i64 v, .int .i64 t] 45)).mono P.hb
 have Hb1:=Lib.hid b1
 have S:=spot_read P1.at_ (word_any base g s os H h i _ P1.at_ P1.right.rise P1.n)
 have HP1:=Lib.hid P1
 rw [doneH_read (h:=H) (o:=⟨6,h,i,n,kk,v,t⟩) rfl]
 have hb:=P1.hb
 have Hb:=Lib.hid hb
 simp only at S ⊢
 generalize readH H false h i=r at S ⊢
 obtain ⟨rc,rv⟩:=r
 simp only at S
 unfold opv opcs
 clear P P1 b1 hb
 rcases S with ⟨hc,hv,S⟩ | ⟨hc,S⟩
 ·have RB:=fun W=>read_bad (.pointer none) rc W hc
  subst hv
  have hc0:(rc != 0)=true:=by simp [hc]
  clear hc
  go_enter Tryz.func23,Tryz.ntmps23
  go_wp2_with (first
   | (go_at_call 51;refine S.mono ?_;rintro e w2 ⟨rfl,g2⟩)
   | (go_at_call 50;refine (RB _).mono ?_;rintro e w3 ⟨rfl,rfl⟩))
  go_ret2
  exact ⟨s,os,rfl,HP1.out.at_.below g2.below,Hb1.out.trans (g2.below.mono Hb.out)⟩
 ·subst hc
  go_enter Tryz.func23,Tryz.ntmps23
  go_wp2_with (first
   | (go_at_call 51;refine S.mono ?_;rintro e w2 ⟨gw,j,rfl,g2,hcl⟩;have RG:=read_good gw j rv w2 hcl)
   | (go_at_call 50;refine RG.mono ?_;rintro e w3 ⟨rfl,rfl⟩))
  go_ret2
  exact ⟨s,os,rfl,HP1.out.at_.below g2.below,Hb1.out.trans (g2.below.mono Hb.out)⟩
set_option maxRecDepth 100000 in
set_option maxHeartbeats 2000000 in
theorem do_7 (base g:Nat) (s:HSl) (os:List (Ob × OSl)) (H:Hp) (h i n kk v t:Int) (w:World) (P:DoPre w base g s os H) :
  Calls Tryz.prog 23 #[.pointer (some ⟨g,0,none⟩),opv ⟨7,h,i,n,kk,v,t⟩] w (DoPost w base g (doneH H ⟨7,h,i,n,kk,v,t⟩)):=by
 have P1:=P.below ((Below.refl w.heap.size w).alloc (Nat.le_refl _) (.cells #[.int .i64 7, .int .i64 h, .int .i64 i, .int .i64 n, .int .i64 kk, .int .i64 v, .int .i64 t] 45))
 have b1:=((Below.refl w.heap.size w).alloc (Nat.le_refl _) (.cells #[.int .i64 7, .int .i64 h, .int .i64 i, .int .i64 n, .int .i64 kk, .int .i64 v, .int .i64 t] 45)).mono P.hb
 have Hb1:=Lib.hid b1
 have S:=spot_read P1.at_ (link_any base g s os H h i _ P1.at_ P1.right.rise P1.n)
 have HP1:=Lib.hid P1
 rw [doneH_follow (h:=H) (o:=⟨7,h,i,n,kk,v,t⟩) rfl]
 have hb:=P1.hb
 have Hb:=Lib.hid hb
 simp only at S ⊢
 generalize readH H true h i=r at S ⊢
 obtain ⟨rc,rv⟩:=r
 simp only at S
 unfold opv opcs
 clear P P1 b1 hb
 rcases S with ⟨hc,hv,S⟩ | ⟨hc,S⟩
 ·have RB:=fun W=>read_bad (.pointer none) rc W hc
  subst hv
  have hc0:(rc != 0)=true:=by simp [hc]
  clear hc
  go_enter Tryz.func23,Tryz.ntmps23
  go_wp2_with (first
   | (go_at_call 52;refine S.mono ?_;rintro e w2 ⟨rfl,g2⟩)
   | (go_at_call 50;refine (RB _).mono ?_;rintro e w3 ⟨rfl,rfl⟩))
  go_ret2
  exact ⟨s,os,rfl,HP1.out.at_.below g2.below,Hb1.out.trans (g2.below.mono Hb.out)⟩
 ·subst hc
  go_enter Tryz.func23,Tryz.ntmps23
  go_wp2_with (first
   | (go_at_call 52;refine S.mono ?_;rintro e w2 ⟨gw,j,rfl,g2,hcl⟩;have RG:=read_good gw j rv w2 hcl)
   | (go_at_call 50;refine RG.mono ?_;rintro e w3 ⟨rfl,rfl⟩))
  go_ret2
  exact ⟨s,os,rfl,HP1.out.at_.below g2.below,Hb1.out.trans (g2.below.mono Hb.out)⟩
set_option maxRecDepth 100000 in
set_option maxHeartbeats 2000000 in
theorem do_8 (base g:Nat) (s:HSl) (os:List (Ob × OSl)) (H:Hp) (h i n kk v t:Int) (w:World) (P:DoPre w base g s os H) :
  Calls Tryz.prog 23 #[.pointer (some ⟨g,0,none⟩),opv ⟨8,h,i,n,kk,v,t⟩] w (DoPost w base g (doneH H ⟨8,h,i,n,kk,v,t⟩)):=by
 have P1:=P.below ((Below.refl w.heap.size w).alloc (Nat.le_refl _) (.cells #[.int .i64 8, .int .i64 h, .int .i64 i, .int .i64 n, .int .i64 kk, .int .i64 v, .int .i64 t] 45))
 have b1:=((Below.refl w.heap.size w).alloc (Nat.le_refl _) (.cells #[.int .i64 8, .int .i64 h, .int .i64 i, .int .i64 n, .int .i64 kk, .int .i64 v, .int .i64 t] 45)).mono P.hb
 have Hb1:=Lib.hid b1
 have S:=top_any g i (w.alloc (.cells #[.int .i64 8, .int .i64 h, .int .i64 i, .int .i64 n, .int .i64 kk, .int .i64 v, .int .i64 t] 45))
 have HP1:=Lib.hid P1
 rw [doneH_top (h:=H) (o:=⟨8,h,i,n,kk,v,t⟩) rfl]
 simp only
 unfold opv opcs askTop
 by_cases hi:0≤i∧i < 4
 ·rw [if_pos hi]
  obtain ⟨j,rfl⟩:=Int.eq_ofNat_of_zero_le hi.1
  have S2:=S.mono fun e w' (hp:TopPost _ g (j:Int) e w')=>(by
   obtain ⟨hw,⟨hn,_⟩ | ⟨j2,hj,_,he⟩⟩:=hp
   ·exact absurd hi hn
   ·obtain rfl:j=j2:=by omega
    exact ⟨he,hw⟩:e = .returned (.tuple #[.pointer (some ⟨g,3+j,none⟩), .int .i64 0])∧_=w')
  have hcell:(w.alloc (.cells #[.int .i64 8, .int .i64 h, .int .i64 (j:Int), .int .i64 n, .int .i64 kk, .int .i64 v, .int .i64 t] 45)).cell? ⟨g,3+j,none⟩=some (.int .i64 (H.tp.getD j 0)):=by
   rw [P1.at_.box.cell]
   rcases (by omega:j=0∨j=1∨j=2∨j=3) with e | e | e | e <;> subst e <;> rfl
  have RG:=read_good g (3+j) (H.tp.getD j 0) _ hcell
  rw [Int.toNat_natCast]
  generalize H.tp.getD j 0=rv at RG ⊢
  clear P P1 b1 hcell S hi
  go_enter Tryz.func23,Tryz.ntmps23
  go_wp2_with (first
   | (go_at_call 53;refine S2.mono ?_;rintro e w2 ⟨rfl,rfl⟩)
   | (go_at_call 50;refine RG.mono ?_;rintro e w3 ⟨rfl,rfl⟩))
  go_ret2
  exact ⟨s,os,rfl,HP1.out.at_,Hb1.out⟩
 ·rw [if_neg hi]
  have S2:=S.mono fun e w' (hp:TopPost _ g i e w')=>(by
   obtain ⟨hw,⟨_,he⟩ | ⟨j2,hj,h4,he⟩⟩:=hp
   ·exact ⟨he,hw⟩
   ·exact absurd ⟨by omega,by omega⟩ hi:e = .returned (.tuple #[.pointer none, .int .i64 52])∧_=w')
  have RB:=fun W=>read_bad (.pointer none) 52 W (by decide)
  clear P P1 b1 S hi
  go_enter Tryz.func23,Tryz.ntmps23
  go_wp2_with (first
   | (go_at_call 53;refine S2.mono ?_;rintro e w2 ⟨rfl,rfl⟩)
   | (go_at_call 50;refine (RB _).mono ?_;rintro e w3 ⟨rfl,rfl⟩))
  go_ret2
  exact ⟨s,os,rfl,HP1.out.at_,Hb1.out⟩
set_option maxRecDepth 100000 in
set_option maxHeartbeats 2000000 in
theorem do_none (base g:Nat) (s:HSl) (os:List (Ob × OSl)) (H:Hp) (o:Opn) (w:World) (P:DoPre w base g s os H) (ho:o.k≠1∧o.k≠2∧o.k≠3∧o.k≠4∧o.k≠5∧o.k≠6∧o.k≠7∧o.k≠8) :
  Calls Tryz.prog 23 #[.pointer (some ⟨g,0,none⟩),opv o] w (DoPost w base g (doneH H o)):=by
 have P1:=P.below ((Below.refl w.heap.size w).alloc (Nat.le_refl _) (.cells (opcs o).toArray 45))
 have b1:=((Below.refl w.heap.size w).alloc (Nat.le_refl _) (.cells (opcs o).toArray 45)).mono P.hb
 have Hb1:=Lib.hid b1
 have HP1:=Lib.hid P1
 have hr:doneH H o=(H,54,0):=by
  unfold doneH
  rw [if_neg (by omega),if_neg (by unfold isObj;omega),if_neg (by omega)]
 rw [hr]
 clear P P1 b1 hr
 obtain ⟨k,h,i,n,kk,v,t⟩:=o
 simp only at ho
 unfold opv opcs at *
 simp only at *
 have q1:(k == 1)=false:=by simp;omega
 have q2:(k == 2)=false:=by simp;omega
 have q3:(k == 3)=false:=by simp;omega
 have q4:(k == 4)=false:=by simp;omega
 have q5:(k == 5)=false:=by simp;omega
 have q6:(k == 6)=false:=by simp;omega
 have q7:(k == 7)=false:=by simp;omega
 have q8:(k == 8)=false:=by simp;omega
 clear ho
 go_enter Tryz.func23,Tryz.ntmps23
 go_wp2_with fail
 go_ret2
 exact ⟨s,os,rfl,HP1.out.at_,Hb1.out⟩
theorem do_any (base g:Nat) (s:HSl) (os:List (Ob × OSl)) (H:Hp) (o:Opn) (w:World) (P:DoPre w base g s os H) :
  Calls Tryz.prog 23 #[.pointer (some ⟨g,0,none⟩),opv o] w (DoPost w base g (doneH H o)):=by
 by_cases ho:o.k≠1∧o.k≠2∧o.k≠3∧o.k≠4∧o.k≠5∧o.k≠6∧o.k≠7∧o.k≠8
 ·exact do_none base g s os H o w P ho
 ·obtain ⟨k,h,i,n,kk,v,t⟩:=o
  simp only at ho
  rcases (by omega:k=1∨k=2∨k=3∨k=4∨k=5∨k=6∨k=7∨k=8) with e | e | e | e | e | e | e | e <;> subst e
  ·exact do_1 base g s os H h i n kk v t w P
  ·exact do_2 base g s os H h i n kk v t w P
  ·exact do_3 base g s os H h i n kk v t w P
  ·exact do_4 base g s os H h i n kk v t w P
  ·exact do_5 base g s os H h i n kk v t w P
  ·exact do_6 base g s os H h i n kk v t w P
  ·exact do_7 base g s os H h i n kk v t w P
  ·exact do_8 base g s os H h i n kk v t w P
end Go.Proofs.YtcodpnbemdflcaaGreatDoor
namespace Go.Proofs.YtcodpnbemdflcaaGreatDoor
open Go.RowKit
theorem OwnHp.grown {w w':World} {base r:Nat} {s:HSl} {os:List (Ob × OSl)} {H:Hp} (h:OwnHp w base s os H) (hg:w.grownBy w' (some r)) (hr:r < base):OwnHp w' base s os H :=
 ⟨h.objs.grown hg (fun k hk e=>by have:=(h.objs.row_lt k hk).1;injection e with e;omega) (fun k hk e=>by have:=(h.objs.lt k hk).1;injection e with e;omega),h.obs,h.free.grown hg (fun k hk e=>by have:=(h.free.lt k hk).1;injection e with e;omega),h.tp,h.nx⟩
set_option maxRecDepth 100000 in
set_option maxHeartbeats 4000000 in
theorem do_heap (s:HSl) (H:Hp) (o:Opn) (w:World) (h:RdH w s H) (hS:SmallH H) (hT:Tab w) :
  Calls Tryz.prog 9 #[hval H s,opv o] w (InPost w w.heap.size (doH H o)):=by
 have M:=Lib.hid (FnMem.start w (hcs H s) (opcs o))
 have HH:=Lib.hid h
 have HT:=Lib.hid hT
 have HS:=Lib.hid hS
 obtain ⟨A,n,c,F,m,d⟩:=s
 have hm600:m≤600:=by have h1:=h.fr.len;have h2:=hS.2.1;simp only at h1;omega
 clear h hS hT
 simp only [hval,hcs,opv,opcs,zcs,rcs] at *
 obtain ⟨r,hr⟩ : ∃ r,r=doH H o:=⟨_,rfl⟩
 rw [← hr]
 have HR:=Lib.hid hr
 clear hr
 go_enter Tryz.func9,Tryz.ntmps9
 go_upto_region 1 with (fail)
 generalize (((w.alloc (.cells _ 28)).alloc (.cells _ 45)).alloc (.cells _ 28)).alloc (.cells _ 40)=W at M ⊢
 obtain ⟨k0,k1,k2,k3,k4,k5,k6,k7⟩:=M.out.kh.eight
 have S1:=check_heap ⟨A,n,c,F,m,d⟩ H W (HH.out.below M.out.bel) HS.out (HT.out.below M.out.bel)
 simp only [hval,hcs] at S1
 by_cases hR:RightH H
 case neg =>
  rw [chkH_no hR] at S1
  have Hr2:=Lib.hid (show r=(zeroH,1,0) by rw [HR.out,doH_wrong hR])
  clear hR
  go_upto_region 2 with (go_at_call 21;refine S1.mono ?_;rintro e w2 ⟨rfl,b2⟩)
  have M2:=M.out.below b2
  clear k0 k1 k2 k3 k4 k5 k6 k7 S1
  have r0:=M2.kr.cell 0
  have r1:=M2.kr.cell 1
  have r2:=M2.kr.cell 2
  have r3:=M2.kr.cell 3
  have r4:=M2.kr.cell 4
  have r5:=M2.kr.cell 5
  have r6:=M2.kr.cell 6
  have r7:=M2.kr.cell 7
  have q0:=M2.kq.cell 0
  have q1:=M2.kq.cell 1
  simp only [zcs,rcs,List.getElem?_cons_succ,List.getElem?_cons_zero] at r0 r1 r2 r3 r4 r5 r6 r7 q0 q1
  have fr:=M2.kr.free
  have fq:=M2.kq.free
  have Hf:=Lib.hid (M2.fin (.int .i64 0) (.slice none 0 0) (.int .i64 0) (.int .i64 0) (.int .i64 0) (.int .i64 0) (.int .i64 0) (.slice none 0 0) (.int .i64 1) (.int .i64 0))
  clear M2
  go_wp2_with fail
  refine bodyPost_ret (results_two rfl _ _ (w.heap.size+1+1) (w.heap.size+1+1+1) rfl rfl Hf.out.1 Hf.out.2.1) rfl ?_
  rw [Hr2.out]
  exact ⟨⟨none,0,0,none,0,0⟩, [],rfl,⟨OwnOs.nil,rfl,OwnB.nil,rfl,by simp [zeroH]⟩,Hf.out.2.2⟩
 rw [chkH_yes hR] at S1
 have Hr2:=Lib.hid (show r=doneH H o by rw [HR.out,doH_right hR])
 have HRt:=Lib.hid hR
 clear hR
 go_upto_region 3 with (go_at_call 21;refine S1.mono ?_;rintro e w2 ⟨rfl,b2⟩)
 have M2:=M.out.below b2
 clear k0 k1 k2 k3 k4 k5 k6 k7 S1 b2 M
 obtain ⟨k0,k1,k2,k3,k4,k5,k6,k7⟩:=M2.kh.eight
 have S2:=copyOf_any ⟨A,n,c,F,m,d⟩ H w2 (HH.out.below M2.bel) HS.out
 simp only [hval,hcs] at S2
 have HM2:=Lib.hid M2
 clear M2
 go_upto_region 4 with (go_at_call 22;refine S2.mono ?_;rintro e w3 ⟨g,s3,os3,rfl,C3,b3⟩)
 clear k0 k1 k2 k3 k4 k5 k6 k7 S2
 have M3:=HM2.out.below b3
 have hm3:s3.m≤1000:=by
  have h1:=C3.own.rd.fr.len
  have h2:=HS.out.2.1
  omega
 have S3:=do_any w2.heap.size g s3 os3 H o w3 ⟨C3,HRt.out,HT.out.below M3.bel,hm3,b3.size⟩
 rw [← Hr2.out] at S3
 have p:=M3.ko.seven
 obtain ⟨p0,p1,p2,p3,p4,p5,p6⟩:=p
 simp only [opv,opcs] at S3
 have Hb3:=Lib.hid b3
 clear C3 b3 M3 hm3
 go_upto_region 5 with (go_at_call 23;refine S3.mono ?_;rintro e w4 ⟨s4,os4,rfl,C4,b4⟩)
 clear S3 p0 p1 p2 p3 p4 p5 p6
 have b24:Below w2.heap.size w2 w4:=Hb3.out.trans b4
 have M4:=HM2.out.below b24
 obtain ⟨rH,rc,rv⟩:=r
 obtain ⟨A4,n4,c4,F4,m4,d4⟩:=s4
 have hbox:=C4.box
 simp only [hcs] at hbox
 obtain ⟨k0,k1,k2,k3,k4,k5,k6,k7⟩:=hbox.eight
 have r0:=M4.kr.cell 0
 have r1:=M4.kr.cell 1
 have r2:=M4.kr.cell 2
 have r3:=M4.kr.cell 3
 have r4:=M4.kr.cell 4
 have r5:=M4.kr.cell 5
 have r6:=M4.kr.cell 6
 have r7:=M4.kr.cell 7
 have q0:=M4.kq.cell 0
 have q1:=M4.kq.cell 1
 simp only [zcs,rcs,List.getElem?_cons_succ,List.getElem?_cons_zero] at r0 r1 r2 r3 r4 r5 r6 r7 q0 q1
 have fr:=M4.kr.free
 have fq:=M4.kq.free
 have Hf:=Lib.hid (M4.fin (.int .i64 rH.od) (.slice A4 n4 c4) (.int .i64 rH.nx) (.int .i64 (tget rH 0)) (.int .i64 (tget rH 1)) (.int .i64 (tget rH 2)) (.int .i64 (tget rH 3)) (.slice F4 m4 d4) (.int .i64 rc) (.int .i64 rv))
 have hsz2:w.heap.size+1+1+1 < w2.heap.size:=HM2.out.kq.lt
 have HO:=Lib.hid ((C4.own.grown (grown_set8 w4 (w.heap.size+1+1) (.int .i64 rH.od) (.slice A4 n4 c4) (.int .i64 rH.nx) (.int .i64 (tget rH 0)) (.int .i64 (tget rH 1)) (.int .i64 (tget rH 2)) (.int .i64 (tget rH 3)) (.slice F4 m4 d4)) (by omega)).grown (grown_trans (grown_set _ (w.heap.size+1+1+1) 0 (.int .i64 rc)) (grown_set _ (w.heap.size+1+1+1) 1 (.int .i64 rv))) (by omega))
 have hge:w.heap.size+1+1 < g:=by have:=C4.ge;omega
 clear M4 C4 hbox b24 b4
 go_wp2_with fail
 refine bodyPost_ret (results_two rfl _ _ (w.heap.size+1+1) (w.heap.size+1+1+1) rfl rfl Hf.out.1 Hf.out.2.1) rfl ?_
 exact ⟨⟨A4,n4,c4,F4,m4,d4⟩,os4,rfl,HO.out.mono (by omega),Hf.out.2.2⟩
end Go.Proofs.YtcodpnbemdflcaaGreatDoor
namespace Go.Proofs.YtcodpnbemdflcaaGreatDoor
open Go.RowKit
theorem bel_alloc {w W:World} (h:Below w.heap.size w W) (o:Obj):Below w.heap.size w (W.alloc o):=h.alloc h.size o
theorem bel_is {w V W:World} (h:Below w.heap.size w V) (_:Below V.heap.size V W):Below w.heap.size w V:=h
theorem whole_is {V W:World} {p:Nat} {t:TypeId} {cs:List Value} (h:Whole V p t cs) (_:Below V.heap.size V W):Whole V p t cs:=h
theorem size_alloc (W:World) (o:Obj):(W.alloc o).heap.size=W.heap.size+1:=by simp
theorem whole_new' {w:World} {cs:Array Value} {t:TypeId} {l:List Value} (h:cs.toList=l):Whole (w.alloc (.cells cs t)) w.heap.size t l:=h ▸ Whole.new w cs t
theorem box_beside {w:World} {p q:Nat} {b0 b1:Value} {cs:List Value} (k6:Whole w p 28 cs) (k7:Whole w q 40 [b0,b1]) :
  (∀ a0 a1 a2 a3 a4 a5 a6 a7:Value,((((((((w.setCell ⟨p,0,none⟩ a0).setCell ⟨p,1,none⟩ a1).setCell ⟨p,2,none⟩ a2).setCell ⟨p,3,none⟩ a3).setCell ⟨p,4,none⟩ a4).setCell ⟨p,5,none⟩ a5).setCell ⟨p,6,none⟩ a6).setCell ⟨p,7,none⟩ a7).cell? ⟨q,0,none⟩=some b0)∧(∀ a0 a1 a2 a3 a4 a5 a6 a7:Value,((((((((w.setCell ⟨p,0,none⟩ a0).setCell ⟨p,1,none⟩ a1).setCell ⟨p,2,none⟩ a2).setCell ⟨p,3,none⟩ a3).setCell ⟨p,4,none⟩ a4).setCell ⟨p,5,none⟩ a5).setCell ⟨p,6,none⟩ a6).setCell ⟨p,7,none⟩ a7).cell? ⟨q,1,none⟩=some b1) ∧
   ∀ (a0 a1 a2 a3 a4 a5 a6 a7:Value) (j:Nat),((((((((w.setCell ⟨p,0,none⟩ a0).setCell ⟨p,1,none⟩ a1).setCell ⟨p,2,none⟩ a2).setCell ⟨p,3,none⟩ a3).setCell ⟨p,4,none⟩ a4).setCell ⟨p,5,none⟩ a5).setCell ⟨p,6,none⟩ a6).setCell ⟨p,7,none⟩ a7).frozen? ⟨q,j,none⟩=false:=by
 have hne:=k7.ne k6 (by decide)
 exact ⟨fun a0 a1 a2 a3 a4 a5 a6 a7=>(k7.grown (grown_set8 w p a0 a1 a2 a3 a4 a5 a6 a7) hne).cell 0,fun a0 a1 a2 a3 a4 a5 a6 a7=>(k7.grown (grown_set8 w p a0 a1 a2 a3 a4 a5 a6 a7) hne).cell 1,fun a0 a1 a2 a3 a4 a5 a6 a7 j=>(k7.grown (grown_set8 w p a0 a1 a2 a3 a4 a5 a6 a7) hne).free j⟩
end Go.Proofs.YtcodpnbemdflcaaGreatDoor

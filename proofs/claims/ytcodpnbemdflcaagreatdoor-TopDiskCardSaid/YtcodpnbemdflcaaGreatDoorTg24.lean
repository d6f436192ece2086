/-
  slices.Delete of one object of a row of the call's own; links that lead to what is gone lead nowhere: contracts.
  An object of a heap's copy goes: contract.
-/
import Derived.Test.YtcodpnbemdflcaaGreatDoorTg23
import Derived.Deep.RegionLaw
import Derived.Lib.SliceRun
import Derived.Test.YtcodpnbemdflcaaGreatDoorTg12
namespace Go.Proofs.YtcodpnbemdflcaaGreatDoor
open Go.RowKit
def layL:List Value→Nat→List Value→List Value
 | cs,_, []=>cs
 | cs,o,v :: r=>layL (cs.set o v) (o+1) r
theorem layL_eq : ∀ {vs cs:List Value} {o:Nat},o+vs.length≤cs.length→layL cs o vs=cs.take o++vs++cs.drop (o+vs.length)
 | [],cs,o,h=>by simp [layL]
 | v :: r,cs,o,h=>by
  rw [List.length_cons] at h
  rw [layL,layL_eq (by rw [List.length_set];omega)]
  have ho:o < cs.length:=by omega
  rw [List.take_add_one,List.getElem?_set_self ho,List.take_set_of_le (Nat.le_refl _),List.drop_set,if_pos (by omega),List.length_cons]
  simp only [Option.toList_some]
  rw [show o+1+r.length=o+(r.length+1) by omega]
  simp
theorem Whole.sets {g:Nat} {t:TypeId} : ∀ {vs cs:List Value} {o:Nat} {w:World},Whole w g t cs→Whole (w.setCells g o vs) g t (layL cs o vs)
 | [],_,_,_,h=>h
 | v :: r,_,o,_,h=>by
  have:=Whole.sets (vs:=r) (o:=o+1) (h.set o v)
  exact this
theorem grown_sets (g:Nat) : ∀ (vs:List Value) (o:Nat) (w:World),w.grownBy (w.setCells g o vs) (some g)
 | [],_,w=>grown_refl w _
 | v :: r,o,w=>grown_trans (grown_set w g o v) (grown_sets g r (o+1) _)
theorem row_whole {U:TypeId} {w:World} {base sz n c g:Nat} {xs:List Value} (h:w.ownsRow base U sz (.slice (some ⟨g,0,none⟩) n c) n xs) :
  ∃ post,Whole w g U (xs++post)∧(xs++post).length=c*sz∧n≤c∧c≤maxLen∧base≤g:=by
 rcases h.2 with ⟨h2,_⟩ | ⟨g',cap,cur,hv,hg,hh,hc,hm,hs,ht⟩
 ·cases h2
 ·injection hv with e1 e2 e3
  injection e1 with e1
  injection e1 with e1
  subst e1 e3
  have hsz:cur.toList.length=c*sz:=by simpa using hs
  have hle:n*sz≤c*sz:=Nat.mul_le_mul_right _ hc
  have e:xs++cur.toList.drop (n*sz)=cur.toList:=by rw [← ht,List.take_append_drop]
  refine ⟨cur.toList.drop (n*sz),?_,by rw [e,hsz],hc,hm,hg⟩
  rw [e]
  unfold Whole
  rw [hh]
theorem whole_row {U:TypeId} {w:World} {base sz n c g:Nat} {xs post:List Value} (h:Whole w g U (xs++post)) (hl:xs.length=n*sz) (hc:(xs++post).length=c*sz) (hn:n≤c) (hm:c≤maxLen) (hg:base≤g):w.ownsRow base U sz (.slice (some ⟨g,0,none⟩) n c) n xs :=
 ⟨hl, .inr ⟨g,c,(xs++post).toArray,rfl,hg,h,hn,hm,by simpa using hc,by simp [← hl]⟩⟩
def zob:List Value := [.int .i64 0, .int .i64 0, .int .i64 0, .slice none 0 0, .slice none 0 0]
theorem run_clear_ob (w:World) (b o c:Nat) (ty:TypeId) (hc : ∀ j,j < 5→(w.cell? ⟨b,o+j,none⟩).isSome=true) (hf : ∀ j,j < 5→w.frozen? ⟨b,o+j,none⟩=false) :
  (Builtin.clear_ #[24] ty #[.slice (some ⟨b,o,none⟩) 1 c]).run Tryz.prog w = .ok (.tuple #[]) (w.setCells b o zob):=by
 have hv:=Tryz.zeroValue60
 have hst:=run_storeCells_cells (P:=Tryz.prog) b o zob 0 w (by simpa [zob] using hc) (by simpa [zob] using hf) (by intro v hv';simp [zob] at hv';rcases hv' with rfl | rfl <;> rfl)
 simp only [Nat.add_zero] at hst
 have hzc:(Builtin.zeroCells #[.int .i64 0, .int .i64 0, .int .i64 0, .slice none 0 0, .slice none 0 0] 1).toList=zob:=by simp [Builtin.zeroCells,zob,Array.range]
 simp [Builtin.clear_,run_underlying Tryz.underlying24,hv,hzc,hst,Value.cells]
theorem ocs_append (a b:List (Ob × OSl)):ocs (a++b)=ocs a++ocs b:=by simp [ocs]
theorem ocs_take (os:List (Ob × OSl)) (k:Nat):(ocs os).take (k*5)=ocs (os.take k):=by
 by_cases h:k≤os.length
 ·conv=>lhs;rw [← List.take_append_drop k os,ocs_append]
  rw [List.take_append_of_le_length (by rw [ocs_length,List.length_take];omega),List.take_of_length_le (by rw [ocs_length,List.length_take];omega)]
 ·rw [List.take_of_length_le (by rw [ocs_length];omega),List.take_of_length_le (by omega)]
theorem ocs_drop (os:List (Ob × OSl)) (k:Nat):(ocs os).drop (k*5)=ocs (os.drop k):=by
 by_cases h:k≤os.length
 ·conv=>lhs;rw [← List.take_append_drop k os,ocs_append]
  rw [List.drop_append_of_le_length (by rw [ocs_length,List.length_take];omega),List.drop_of_length_le (by rw [ocs_length,List.length_take];omega),List.nil_append]
 ·rw [List.drop_of_length_le (by rw [ocs_length];omega),List.drop_of_length_le (by omega)];rfl
theorem del_cells {os:List (Ob × OSl)} {post:List Value} {n p:Nat} (hl:os.length=n) (hp:p < n) :
  layL (layL (ocs os++post) (p*5) (ocs (os.drop (p+1)))) ((n - 1)*5) zob=ocs (os.eraseIdx p)++(zob++post):=by
 have h1:=ocs_length os
 have h2:(ocs (os.drop (p+1))).length=(n - 1 - p)*5:=by rw [ocs_length,List.length_drop];omega
 have h3:zob.length=5:=rfl
 have e1:layL (ocs os++post) (p*5) (ocs (os.drop (p+1)))=ocs (os.eraseIdx p)++((ocs os++post).drop ((n - 1)*5)):=by
  rw [layL_eq (by rw [List.length_append,h1,h2];omega),h2,show p*5+(n - 1 - p)*5=(n - 1)*5 by omega,List.take_append_of_le_length (by omega),ocs_take,List.eraseIdx_eq_take_drop_succ,ocs_append]
 have h4:(ocs (os.eraseIdx p)).length=(n - 1)*5:=by rw [ocs_length,List.length_eraseIdx,hl,if_pos hp]
 rw [e1,layL_eq (by rw [List.length_append,h4,List.length_drop,List.length_append,h1,h3];omega),List.take_append_of_le_length (by omega),List.take_of_length_le (by omega),h3,List.append_assoc]
 congr 2
 rw [List.drop_append,h4,List.drop_eq_nil_of_le (by omega),List.nil_append,List.drop_drop,show (n - 1)*5+((n - 1)*5+5 - (n - 1)*5)=n*5 by omega,List.drop_append,h1,hl,List.drop_eq_nil_of_le (by omega),Nat.sub_self]
 simp
set_option maxRecDepth 100000 in
set_option maxHeartbeats 2000000 in
theorem delete_any (base g n c p:Nat) (os:List (Ob × OSl)) (w:World) (hrow:w.ownsRow base 60 5 (.slice (some ⟨g,0,none⟩) n c) n (ocs os)) (hl:os.length=n) (hp:p < n) (hn:n≤1000) (h1 : ∀ u ∈ ocs os,u.oneCell'=true) :
  Calls Tryz.prog 88 #[.slice (some ⟨g,0,none⟩) n c, .int .i64 (p:Int), .int .i64 ((p:Int)+1)] w
   fun e w'=>e = .returned (.slice (some ⟨g,0,none⟩) (n - 1) c)∧w'.ownsRow base 60 5 (.slice (some ⟨g,0,none⟩) (n - 1) c) (n - 1) (ocs (os.eraseIdx p))∧w.grownBy w' (some g):=by
 obtain ⟨post,hW,hlen,hnc,hcm,hg⟩:=row_whole hrow
 have hol:=ocs_length os
 obtain ⟨i0,hi0,hz0,hz1,hz2⟩:=info_parts Tryz.infoOb
 obtain ⟨news,hnews⟩ : ∃ news,news=ocs (os.drop (p+1)):=⟨_,rfl⟩
 have hnl:news.length=(n - (p+1))*5:=by rw [hnews,ocs_length,List.length_drop,hl]
 have hcs:(ocs os++post).length=c*5:=hlen
 have cellw : ∀ j,j < c*5→(w.drew.cell? ⟨g,j,none⟩).isSome=true:=fun j hj=>by
  rw [hW.drew.cell j,List.getElem?_eq_getElem (by omega)];rfl
 obtain ⟨A,hA,hsrc⟩ : ∃ A:Addr,(if c=p+1 then some (⟨g,0,none⟩:Addr) else some ⟨g,(p+1)*5,none⟩)=some A∧Hid (∀ t u,news[t]? = some u→w.drew.cell? (A.add t)=some u):=by
  by_cases h:c=p+1
  ·refine ⟨⟨g,0,none⟩,if_pos h,Lib.hid fun t u hu => ?_⟩
   have h0:news.length=0:=by rw [hnl];omega
   rw [List.length_eq_zero_iff.1 h0] at hu
   simp at hu
  ·refine ⟨⟨g,(p+1)*5,none⟩,if_neg h,Lib.hid fun t u hu => ?_⟩
   rw [add_plain,hW.drew.cell,List.getElem?_append_left (by rw [hol];have:=(List.getElem?_eq_some_iff.1 hu).1;omega)]
   rw [hnews, ← ocs_drop,List.getElem?_drop] at hu
   simpa using hu
 have s2:Hid (∀ u ∈ news,u.oneCell'=true):=Lib.hid fun u hu=>h1 u (by rw [hnews, ← ocs_drop] at hu;exact List.mem_of_mem_drop hu)
 have s3:Hid (∀ t,t < news.length→(w.drew.cell? ⟨g,0+p*5+t,none⟩).isSome=true∧w.drew.frozen? ⟨g,0+p*5+t,none⟩=false):=Lib.hid fun t ht=>⟨cellw _ (by rw [hnl] at ht;omega),hW.drew.free _⟩
 obtain ⟨W1,hW1⟩ : ∃ W1,W1=w.drew.setCells g (0+p*5) news:=⟨_,rfl⟩
 have K1:Whole W1 g 60 (layL (ocs os++post) (p*5) news):=by rw [hW1,Nat.zero_add];exact hW.drew.sets
 have hll:(layL (ocs os++post) (p*5) news).length=c*5:=by
  rw [layL_eq (by rw [hnl];omega),List.length_append,List.length_append,List.length_take,List.length_drop,hnl];omega
 have hcl : ∀ ty cc,(Builtin.clear_ #[24] ty #[.slice (some ⟨g,(n - 1)*5,none⟩) 1 cc]).run Tryz.prog W1 = .ok (.tuple #[]) (W1.setCells g ((n - 1)*5) zob):=fun ty cc =>
  run_clear_ob W1 g ((n - 1)*5) cc ty (fun j hj=>by rw [K1.cell,List.getElem?_eq_getElem (by omega)];rfl) (fun j _=>K1.free _)
 have G1:w.grownBy W1 (some g):=grown_trans (grown_below (Below.refl _ _).drew _) (by rw [hW1];exact grown_sets _ _ _ _)
 have HF:=Lib.hid (show (W1.setCells g ((n - 1)*5) zob).ownsRow base 60 5 (.slice (some ⟨g,0,none⟩) (n - 1) c) (n - 1) (ocs (os.eraseIdx p)) by
  have K2:=K1.sets (vs:=zob) (o:=(n - 1)*5)
  rw [hnews,del_cells hl hp] at K2
  have he:(ocs (os.eraseIdx p)).length=(n - 1)*5:=by rw [ocs_length,List.length_eraseIdx,hl,if_pos hp]
  refine whole_row K2 he ?_ (by omega) hcm hg
  rw [List.length_append] at hcs
  rw [List.length_append,List.length_append,he]
  have:zob.length=5:=rfl
  omega)
 have HG:=Lib.hid (grown_trans G1 (grown_sets g zob ((n - 1)*5) W1))
 have hWH:=Lib.hid hW1
 have hpn:(p:Int) < (n:Int):=by omega
 have hw1:IntKind.i64.wrap ((p:Int)+1)=((p+1:Nat):Int):=by rw [IntKind.wrap_i64];omega
 have hnlH:=Lib.hid hnl
 rw [show ((p:Int)+1)=((p+1:Nat):Int) by omega]
 have hne:((p:Int) == ((p+1:Nat):Int))=false:=by simp;omega
 have hp0:(0:Int)≤(p:Int)+1:=by omega
 have hp1:(p:Int)+1≤(n:Int):=by omega
 have mixed:=mixedP
 have hic:p≤c:=by omega
 have hjc:p+1≤c:=by omega
 clear hrow hW hlen hol hnews cellw K1 hll G1 hW1 h1 hcs hnl hw1
 go_enter Tryz.func88,Tryz.ntmps88
 go_upto_region 5 with (fail)
 go_region_law_o (refine step_append_room rfl (.tmp 22) (.tmp 25) 24 rfl 60 i0 5 Tryz.underlying24 hi0 hz1 g 0 p c (by simp [Act.eval,Act.put]) A (n - (p+1)) (c - (p+1)) news (by simp [Act.eval,Act.put]) hnlH.out hsrc.out s2.out (by omega) s3.out ?_;rw [← hWH.out])
 all_goals
  have hpm:p+(n - (p+1))=n - 1:=by omega
  rw [hpm]
  obtain ⟨m,rfl⟩ : ∃ m,n=m+1:=⟨n - 1,by omega⟩
  rw [Nat.add_sub_cancel] at *
  have hm1:(m:Int)≤((m+1:Nat):Int):=by omega
  have hmc : ¬ c=m:=by omega
  have hmc2:m+1≤c:=by omega
  have hmm:m+1 - m=1:=by omega
  clear hpm hA s2 s3 hsrc hWH hnlH
  go_wp2_with fail
  go_ret
  exact ⟨rfl,HF.out,HG.out⟩
def FgRel (w:World) (b:Nat) (t:TypeId) (pre post:List Value) (l:List Int) (g:Int) (i:Value) (wr:World):Prop :=
 ∃ k:Nat,k≤l.length∧i = .int .i64 (k:Int)∧Whole wr b t (pre++(ivs ((l.take k).map (un g)++l.drop k)++post))∧w.grownBy wr (some b)
theorem mid_get {pre post:List Value} {l:List Int} {k:Nat} {x:Int} (hx:l[k]? = some x):(pre++(ivs l++post))[pre.length+k]? = some (.int .i64 x):=by
 have hk:k < l.length:=(List.getElem?_eq_some_iff.1 hx).1
 rw [List.getElem?_append_right (by omega),Nat.add_sub_cancel_left,List.getElem?_append_left (by rw [ivs_length];omega),ivs_get hx]
theorem mid_set {pre post:List Value} {l:List Int} {k:Nat} {t:Int} (hk:k < l.length):(pre++(ivs l++post)).set (pre.length+k) (.int .i64 t)=pre++(ivs (l.set k t)++post):=by
 rw [List.set_append_right _ _ (by omega),Nat.add_sub_cancel_left,List.set_append_left _ _ (by rw [ivs_length];omega),ivs_set]
theorem un_step {l:List Int} {k:Nat} {x g:Int} (hx:l[k]? = some x):((l.take k).map (un g)++l.drop k)[k]? = some x∧((l.take k).map (un g)++l.drop k).set k (un g x)=(l.take (k+1)).map (un g)++l.drop (k+1):=by
 obtain ⟨hk,rfl⟩:=List.getElem?_eq_some_iff.1 hx
 have h1:((l.take k).map (un g)).length=k:=by rw [List.length_map,List.length_take];omega
 constructor
 ·rw [List.getElem?_append_right (by omega),h1,Nat.sub_self,List.getElem?_drop,Nat.add_zero];exact hx
 ·rw [List.set_append_right _ _ (by omega),h1,Nat.sub_self,List.drop_eq_getElem_cons hk,List.set_cons_zero,take_snocI hx,List.map_append,List.append_assoc]
  rfl
set_option maxHeartbeats 1000000 in
theorem forget_any (b off n c:Nat) (t:TypeId) (pre post:List Value) (l:List Int) (g:Int) (w:World) (K:Whole w b t (pre++(ivs l++post))) (ho:pre.length=off) (hl:l.length=n) (hn:n≤10000) :
  Calls Tryz.prog 89 #[.slice (some ⟨b,off,none⟩) n c, .int .i64 g] w fun e w'=>e = .returned (.tuple #[])∧Whole w' b t (pre++(ivs (l.map (un g))++post))∧w.grownBy w' (some b):=by
 have HK:=Lib.hid K
 have HL:=Lib.hid hl
 have Hoff:=Lib.hid ho
 clear K hl ho
 go_enter Tryz.func89,Tryz.ntmps89
 go_wp2_with fail
 go_loopw [8] (FgRel w b t pre post l g) (fun i _=>n - (intOf i).toNat)
 case atStart=>exact ⟨0,Nat.zero_le _,rfl,by simpa using HK.out,grown_refl _ _⟩
 case round =>
  obtain ⟨k,hk,rfl,KW,gw⟩:=hrel
  have hkn:k≤n:=by have:=HL.out;omega
  clear hk
  by_cases hlt:k < n
  ·obtain ⟨x,hx⟩ : ∃ x,l[k]? = some x:=⟨_,List.getElem?_eq_getElem (by have:=HL.out;omega)⟩
   obtain ⟨u1,u2⟩:=un_step (g:=g) hx
   have hc:wr.cell? ⟨b,off+k,none⟩=some (.int .i64 x):=by rw [KW.cell, ← Hoff.out];exact mid_get u1
   have hf:=KW.free (off+k)
   have hki:(k:Int) < (n:Int):=by omega
   by_cases he:x=g
   ·have hd:(x == g)=true:=by simp [he]
    have KN:=Lib.hid (KW.set (off+k) (.int .i64 0))
    have GN:=Lib.hid (grown_trans gw (grown_set wr b (off+k) (.int .i64 0)))
    have H2:=Lib.hid (show (pre++(ivs ((l.take k).map (un g)++l.drop k)++post)).set (off+k) (.int .i64 0)=pre++(ivs ((l.take (k+1)).map (un g)++l.drop (k+1))++post) by
     rw [← Hoff.out,mid_set (List.getElem?_eq_some_iff.1 u1).1, ← u2]
     unfold un
     rw [if_pos he])
    clear u1 u2 KW gw he hx
    go_wp2_with fail
    go_roundw
    case rel=>exact ⟨k+1,by have:=HL.out;omega,by go_num,by rw [← H2.out];exact KN.out,GN.out⟩
    case measure=>simp [intOf];omega
   ·have hd:(x == g)=false:=by simp [he]
    have H2:=Lib.hid (show (l.take k).map (un g)++l.drop k=(l.take (k+1)).map (un g)++l.drop (k+1) by
     rw [← u2]
     unfold un at u1 ⊢
     rw [if_neg he]
     obtain ⟨q1,q2⟩:=List.getElem?_eq_some_iff.1 u1
     conv=>rhs;rw [← q2]
     rw [List.set_getElem_self])
    have KN:=Lib.hid KW
    have GN:=Lib.hid gw
    clear u1 u2 KW gw he hx
    go_wp2_with fail
    go_roundw
    case rel=>exact ⟨k+1,by have:=HL.out;omega,by go_num,by rw [← H2.out];exact KN.out,GN.out⟩
    case measure=>simp [intOf];omega
  ·obtain rfl:k=n:=by omega
   have KN:=Lib.hid (show Whole wr b t (pre++(ivs (l.map (un g))++post)) by
    have:=KW
    rw [List.take_of_length_le (by have:=HL.out;omega),List.drop_of_length_le (by have:=HL.out;omega),List.append_nil] at this
    exact this)
   have GN:=Lib.hid gw
   clear KW gw
   go_wp2_with fail
   go_end0
   exact ⟨rfl,KN.out,GN.out⟩
set_option maxHeartbeats 1000000 in
theorem forget_none (A:Option Addr) (c:Nat) (g:Int) (w:World) :
  Calls Tryz.prog 89 #[.slice A 0 c, .int .i64 g] w fun e w'=>e = .returned (.tuple #[])∧w=w':=by
 go_enter Tryz.func89,Tryz.ntmps89
 go_wp2_with fail
 go_loopw [8] (fun i wr=>i = .int .i64 0∧w=wr) (fun i _=>0)
 case atStart=>exact ⟨rfl,rfl⟩
 case round =>
  obtain ⟨rfl,rfl⟩:=hrel
  go_wp2_with fail
  go_end0
  exact ⟨rfl,rfl⟩
end Go.Proofs.YtcodpnbemdflcaaGreatDoor
namespace Go.Proofs.YtcodpnbemdflcaaGreatDoor
open Go.RowKit
theorem CpAt.putL {w w':World} {base g gl n c k:Nat} {s:HSl} {os:List (Ob × OSl)} {H:Hp} {q:Ob × OSl} {l':List Int} (C:CpAt w base g s os H) (hq:os[k]? = some q) (hv:q.2.lv = .slice (some ⟨gl,0,none⟩) n c) (hg:w.grownBy w' (some gl)) (ho:OwnV 3 w' base q.2.lv (ivs l')) :
  CpAt w' base g s (os.set k ({ q.1 with ls:=l' },q.2)) { H with obs:=H.obs.set k { q.1 with ls:=l' } } := by
 have hqm:=List.mem_of_getElem? hq
 have hi:=(List.getElem?_eq_some_iff.1 hq).1
 have hk:q.2.lv.ownBlock=some gl:=by rw [hv];rfl
 have hgb:gl ∈ twoB q.2:=mem_two.2 (.inr hk)
 have hgm:gl ∈ blocksOf os:=mem_blocks.2 ⟨q,hqm, .inr hk⟩
 have h:=C.own.objs
 have hi2:=(h.ints q hqm).2
 refine ⟨C.box.grown hg (C.boxne hi2 hk),⟨⟨?_,fun r hr => ?_,by rw [blocksOf_set hq];exact h.apart⟩,by rw [List.map_set,C.own.obs],C.own.free.grown hg (C.freene hi2 hk),C.own.tp,C.own.nx⟩,C.ge⟩
 ·rw [List.length_set,ocs_set (x := { q.1 with ls:=l' }) hq rfl rfl]
  exact row_keep h.row fun j hj=>hg.block j (h.row_lt j hj).2 fun e=>by injection e with e;subst e;exact h.row_ne (by decide) _ hgm hj
 ·rcases set_mem hr hi with e | ⟨i',hne,hq'⟩
  ·subst e
   have h1:=h.ints q hqm
   exact ⟨h1.1.keep fun j hj=>hg.block j (h1.1.lt j hj).2 fun e=>by injection e with e;subst e;exact h.same hqm hj hk,ho⟩
  ·have h1:=h.ints r (List.mem_of_getElem? hq')
   have hno:=h.other hq hq' (fun e=>hne e.symm) gl hgb
   exact ⟨h1.1.keep fun j hj=>hg.block j (h1.1.lt j hj).2 fun e=>by injection e with e;subst e;exact hno (mem_two.2 (.inl hj)),
    h1.2.keep fun j hj=>hg.block j (h1.2.lt j hj).2 fun e=>by injection e with e;subst e;exact hno (mem_two.2 (.inr hj))⟩
theorem CpAt.putT {w w':World} {base g:Nat} {s:HSl} {os:List (Ob × OSl)} {H:Hp} {l':List Int} (C:CpAt w base g s os H) (hg:w.grownBy w' (some g)) (K:Whole w' g 76 (hcs { H with tp:=l' } s)) (hl:l'.length=4):CpAt w' base g s os { H with tp:=l' } := by
 obtain ⟨n1,n2,n3⟩:=C.ownne
 exact ⟨K,⟨C.own.objs.grown hg n1 n3,C.own.obs,C.own.free.grown hg n2,hl,C.own.nx⟩,C.ge⟩
theorem flatMap_sub {α β:Type} (f:α→List β) {l m:List α} (h:l.Sublist m):(l.flatMap f).Sublist (m.flatMap f):=by
 induction h with
 | slnil=>exact List.Sublist.refl _
 | cons a _ ih=>rw [List.flatMap_cons];exact ih.trans (List.sublist_append_right _ _)
 | cons_cons a _ ih=>rw [List.flatMap_cons,List.flatMap_cons];exact List.Sublist.append (List.Sublist.refl _) ih
theorem map_erase {α β:Type} (f:α→β) (l:List α) (p:Nat):(l.eraseIdx p).map f=(l.map f).eraseIdx p:=by
 rw [List.eraseIdx_eq_take_drop_succ,List.eraseIdx_eq_take_drop_succ,List.map_append,List.map_take,List.map_drop]
theorem CpAt.delO {w w':World} {base g gO n c p:Nat} {F:Option Addr} {m d:Nat} {os:List (Ob × OSl)} {H:Hp} (C:CpAt w base g ⟨some ⟨gO,0,none⟩,n,c,F,m,d⟩ os H) (hb:base≤w.heap.size)
  (hr:w'.ownsRow base 60 5 (.slice (some ⟨gO,0,none⟩) (n - 1) c) (n - 1) (ocs (os.eraseIdx p))) (hl:(os.eraseIdx p).length=n - 1) (hg:w.grownBy w' (some gO)) :
  CpAt (w'.setCell ⟨g,1,none⟩ (.slice (some ⟨gO,0,none⟩) (n - 1) c)) base g ⟨some ⟨gO,0,none⟩,n - 1,c,F,m,d⟩ (os.eraseIdx p) { H with obs:=(os.eraseIdx p).map (·.1) } ∧
  Below base w (w'.setCell ⟨g,1,none⟩ (.slice (some ⟨gO,0,none⟩) (n - 1) c))∧(∃ u,w'.cell? ⟨g,1,none⟩=some u)∧w'.frozen? ⟨g,1,none⟩=false:=by
 have hsub:(os.eraseIdx p).Sublist os:=List.eraseIdx_sublist ..
 have h:=C.own.objs
 have hgO:base≤gO:=(h.row_lt gO rfl).1
 obtain ⟨n1,n2,n3⟩:=C.ownne
 have hgne:g≠gO:=fun e=>n1 gO rfl (by rw [e])
 have K':=C.box.grown hg hgne
 have hF:OwnB 57 w' base (.slice F m d) H.fr:=C.own.free.grown hg fun k hk e=>by
  injection e with e
  subst e
  obtain ⟨c1,h1⟩:=row_type h.row (k:=k) rfl
  obtain ⟨c2,h2⟩:=row_type C.own.free hk
  exact absurd (heap_types h1 h2) (by decide)
 have ho:OwnOs 60 3 w' base (.slice (some ⟨gO,0,none⟩) (n - 1) c) (os.eraseIdx p):=by
  refine ⟨by rw [hl];exact hr,fun q hq => ?_,?_⟩
  ·have hqm:=hsub.mem hq
   have hi:=h.ints q hqm
   exact ⟨hi.1.keep fun k hk=>hg.block k (hi.1.lt k hk).2 fun e=>by injection e with e;subst e;exact h.row_ne (by decide) _ (mem_blocks.2 ⟨q,hqm, .inl hk⟩) rfl,
    hi.2.keep fun k hk=>hg.block k (hi.2.lt k hk).2 fun e=>by injection e with e;subst e;exact h.row_ne (by decide) _ (mem_blocks.2 ⟨q,hqm, .inr hk⟩) rfl⟩
  ·unfold blocksOf
   exact List.Nodup.sublist (flatMap_sub _ hsub) h.apart
 have hbw:Below base w w':=(Below.refl _ _).grown hg hb fun k hk=>by injection hk with hk;omega
 obtain ⟨r1,r2⟩:=CpAt.setO (s:=⟨some ⟨gO,0,none⟩,n,c,F,m,d⟩) (H:=H) K' C.ge (Nat.le_trans hb hg.size) ho hF C.own.tp C.own.nx
 exact ⟨r1,hbw.trans r2,⟨_,K'.cell 1⟩,K'.free 1⟩
theorem list_set_get {α:Type} {l:List α} {k:Nat} {x:α} (h:l[k]? = some x):l.set k x=l:=by
 obtain ⟨h1,rfl⟩:=List.getElem?_eq_some_iff.1 h
 exact List.set_getElem_self h1
def unp (g:Int) (q:Ob × OSl):Ob × OSl:=(unob g q.1,q.2)
theorem unp_step {os:List (Ob × OSl)} {k:Nat} {q:Ob × OSl} {g:Int} (hx:os[k]? = some q):((os.take k).map (unp g)++os.drop k)[k]? = some q∧((os.take k).map (unp g)++os.drop k).set k (unp g q)=(os.take (k+1)).map (unp g)++os.drop (k+1):=by
 obtain ⟨hk,rfl⟩:=List.getElem?_eq_some_iff.1 hx
 have h1:((os.take k).map (unp g)).length=k:=by rw [List.length_map,List.length_take];omega
 constructor
 ·rw [List.getElem?_append_right (by omega),h1,Nat.sub_self,List.getElem?_drop,Nat.add_zero];exact hx
 ·rw [List.set_append_right _ _ (by omega),h1,Nat.sub_self,List.drop_eq_getElem_cons hk,List.set_cons_zero,take_snocI hx,List.map_append,List.append_assoc]
  rfl
def DrRel (w:World) (base g:Nat) (s:HSl) (os:List (Ob × OSl)) (H:Hp) (h:Int) (i:Value) (wr:World):Prop :=
 ∃ k:Nat,k≤os.length∧i = .int .i64 (k:Int)∧CpAt wr base g s ((os.take k).map (unp h)++os.drop k) { H with obs:=((os.take k).map (unp h)++os.drop k).map (·.1) } ∧ Below base w wr
set_option maxRecDepth 100000 in
set_option maxHeartbeats 4000000 in
theorem drop_any (base g:Nat) (s:HSl) (os:List (Ob × OSl)) (H:Hp) (o:Opn) (w:World) (C:CpAt w base g s os H) (hR:RightH H) (hT:Tab w) (hm:s.m≤1000) (hn:s.n≤1000) (hb:base≤w.heap.size) (ho:o.k=2) (hS : ∀ x ∈ H.obs,x.ls.length≤1000) :
  Calls Tryz.prog 46 #[.pointer (some ⟨g,0,none⟩), .int .i64 o.h] w (MethPost w base g (doneH H o)):=by
 have HD:=Lib.hid (doneH_obj (h:=H) (o:=o) (by unfold isObj;omega))
 have HO:=Lib.hid ho
 have HC:=Lib.hid C
 have HR:=Lib.hid hR
 have HT:=Lib.hid hT
 have HSl:=Lib.hid hS
 have HR0:=Lib.hid C.own.obs.symm
 have HC0:=Lib.hid C.own.tp
 have hol:os.length=s.n:=by have:=C.own.rd.obs.len;rw [C.own.obs,List.length_map] at this;exact this
 have Hol:=Lib.hid hol
 have S:=find_any H.obs o.h s.A s.n s.c w C.own.rd.obs hn hR.rise
 obtain ⟨A,n,c,F,m,d⟩:=s
 have hbox:=C.box
 simp only [hcs] at hbox
 have c1:=hbox.cell 1
 simp only [List.getElem?_cons_succ,List.getElem?_cons_zero] at c1
 simp only at hm hn hol S
 clear C hR hT hS ho hol hbox
 go_enter Tryz.func46,Tryz.ntmps46
 go_upto_region 4 with (go_at_call 86;refine S.mono ?_;rintro e w2 (⟨p,x,hpn,hf,rfl,g2⟩ | ⟨k,hf,rfl,g2⟩))
 rotate_left
 ·have Hr:=Lib.hid (show doneH H o=(H,51,0) by rw [HD.out,hf])
  clear hf
  go_ret
  rw [Hr.out]
  exact ⟨_,os,rfl,HC.out.below g2.below,g2.below.mono hb⟩
 clear S c1
 obtain ⟨hx,hxh⟩:=findO_get hf
 obtain ⟨q,hq,hqx⟩ : ∃ q,os[p]? = some q∧q.1=x:=by
  have hx':=hx
  rw [HC.out.own.obs,List.getElem?_map,Option.map_eq_some_iff] at hx'
  exact hx'
 obtain ⟨ml,hgv,hfree⟩:=freeH_is HR.out hx
 have Hr:=Lib.hid (show doneH H o=({ H with obs:=(H.obs.eraseIdx p).map (unob x.hd),tp:=H.tp.map (un x.hd),fr:=ml },0,0) by
  rw [HD.out,hf]
  simp only
  unfold objH
  rw [if_pos HO.out]
  exact hfree)
 have hfit:=HR.out.fits (List.mem_of_getElem? hx)
 have C2:=HC.out.below g2.below
 obtain ⟨gO,hgO⟩:=row_some (by have h1:=C2.own.objs.row;rw [Hol.out] at h1;exact h1) (by omega:0 < n)
 simp only at hgO
 subst hgO
 have hb2:base≤w2.heap.size:=Nat.le_trans hb g2.below.size
 have G : ∀ (W:World) (bl:Below w2.heap.size w2 W),Calls Tryz.prog 87 #[.int .i64 H.od, .slice F m d, .agg #[.int .i64 x.bl.1, .int .i64 x.bl.2]] W fun e w' => ∃ F' m' d',e = .returned (.tuple #[.slice F' m' d', .int .i64 0])∧OwnB 57 w' W.heap.size (.slice F' m' d') ml∧Below W.heap.size W w':=fun W bl=>(give_any H.od F m d H.fr x.bl W (C2.own.rd.fr.below bl) hm ((HT.out.below g2.below).below bl)).mono fun e w' h=>by
  obtain ⟨m2,er,v,rfl,hres,ho,hbl⟩:=h
  obtain ⟨rfl,rfl⟩:=hres.eq (.inr (.inr ⟨HR.out.fr,hfit,rfl,hgv⟩))
  obtain ⟨F',d',rfl,_⟩:=ho.shape rfl
  exact ⟨F',_,d',rfl,ho,hbl⟩
 have z1:=C2.own.objs.cellAt Hol.out hq (i:=1) rfl
 have z2:=C2.own.objs.cellAt Hol.out hq (i:=2) rfl
 rw [hqx] at z1 z2
 have hbox:=C2.box
 simp only [hcs] at hbox
 obtain ⟨c0,c1,_,_,_,_,_,c7⟩:=hbox.eight
 have hpi:(p:Int) < (n:Int):=by omega
 have HG:=Lib.hid G
 have HB:=Lib.hid (g2.below.mono hb)
 have HC2:=Lib.hid C2
 have HBX:=Lib.hid hbox
 have Hq:=Lib.hid hq
 have Hqx:=Lib.hid hqx
 have Hxh:=Lib.hid hxh
 have Hx:=Lib.hid hx
 clear hf hgv hfree hfit hx hq hqx hxh G C2 hbox g2
 go_upto_region 4 with (fail)
 go_cut [6] (fun v wc=>v = .bool true ∧ ∃ F' m' d',CpAt wc base g ⟨some ⟨gO,0,none⟩,n,c,F',m',d'⟩ os { H with fr:=ml } ∧ Below base w2 wc)
 case first =>
  have mixed:=mixedP
  go_region_with (go_at_call 87;refine (HG.out _ (by first | exact Below.refl _ _ | exact (Below.refl _ _).drew)).mono ?_;rintro e W4 ⟨F',m',d',rfl,o4,b4⟩;have bx:Below w2.heap.size w2 W4:=(Below.refl _ _).drew.trans b4;have x7:=(HBX.out.below bx).cell 7;simp only [List.getElem?_cons_succ,List.getElem?_cons_zero] at x7;have fg:=(HBX.out.below bx).free)
  all_goals
   change OwnB 57 W4 w2.heap.size _ _ at o4
   have hfin:=Lib.hid ((HC2.out.below bx).setF (Nat.le_trans hb2 bx.size) (o4.mono hb2))
   have hbf:=Lib.hid (bx.mono hb2)
   clear o4 bx
   go_wp2_with fail
   go_meet
   exact ⟨rfl,F',m',d',hfin.out.1,hbf.out.trans hfin.out.2⟩
 case rest =>
  obtain ⟨rfl,F',m',d',C4,B4⟩:=hcut
  clear c0 c1 c7 z1 z2 HG HC2 HBX HC
  have hb4:base≤wc.heap.size:=Nat.le_trans C4.ge (Nat.le_of_lt C4.box.lt)
  have hx1:=C4.box.cell 1
  simp only [hcs,List.getElem?_cons_succ,List.getElem?_cons_zero] at hx1
  have D:=delete_any base gO n c p os wc (by have h1:=C4.own.objs.row;rw [Hol.out] at h1;exact h1) Hol.out hpn hn (fun u hu=>by
   obtain ⟨r,hr,hu2⟩:=List.mem_flatMap.1 hu
   have hi:=C4.own.objs.ints r hr
   simp [oc] at hu2
   rcases hu2 with rfl | rfl | rfl | rfl | rfl
   ·rfl
   ·rfl
   ·rfl
   ·exact hi.1.oneCell
   ·exact hi.2.oneCell)
  have hlen':(os.eraseIdx p).length=n - 1:=by rw [List.length_eraseIdx,Hol.out,if_pos hpn]
  have DO:=Lib.hid fun (W5:World) hr hg=>C4.delO (w':=W5) hb4 hr hlen' hg
  have HB4:=Lib.hid (HB.out.trans B4)
  clear C4 B4 hb4
  go_upto_region 6 with (go_at_call 88;refine D.mono ?_;rintro e W5 ⟨rfl,hr5,hg5⟩;obtain ⟨C6,B6,⟨u5,y5⟩,f5⟩:=DO.out W5 hr5 hg5)
  clear D DO hr5 hg5 hx1 y5 f5
  have B6':=Lib.hid (HB4.out.trans B6)
  generalize W5.setCell ⟨g,1,none⟩ _=W6 at C6 B6' ⊢
  have hobs':=Lib.hid (show (os.eraseIdx p).map (·.1)=H.obs.eraseIdx p by rw [map_erase,HR0.out])
  obtain ⟨os',hos'⟩ : ∃ os',os'=os.eraseIdx p:=⟨_,rfl⟩
  obtain ⟨n',hn'⟩ : ∃ n',n'=n - 1:=⟨_,rfl⟩
  rw [← hos', ← hn'] at C6
  try rw [← hn']
  rw [← hos'] at hobs' hlen'
  rw [← hn'] at hlen'
  have Hlen:=Lib.hid hlen'
  have hsub:=Lib.hid (show ∀ q ∈ os',q.1 ∈ H.obs from fun q hq=>List.mem_of_mem_eraseIdx (l:=H.obs) (i:=p) (by rw [← hobs'.out];exact List.mem_map_of_mem hq))
  have hn1000:n'≤1000:=by omega
  clear hos' hn' hlen' B6 HB4 hpi hpn hn
  have hx1:=C6.box.cell 1
  simp only [hcs,List.getElem?_cons_succ,List.getElem?_cons_zero] at hx1
  have HC6:=Lib.hid C6
  clear C6
  go_upto_region 7 with (fail)
  clear hx1
  go_loopw [67] (DrRel w base g ⟨some ⟨gO,0,none⟩,n',c,F',m',d'⟩ os' { H with fr:=ml } x.hd) (fun i _=>n' - (intOf i).toNat)
  case atStart=>exact ⟨0,Nat.zero_le _,rfl,by simpa using HC6.out,B6'.out⟩
  case round =>
   clear HC6
   obtain ⟨k,hk,rfl,CW,BW⟩:=hrel
   have hkn:k≤n':=by have:=Hlen.out;omega
   clear hk
   have hbw:base≤wr.heap.size:=Nat.le_trans CW.ge (Nat.le_of_lt CW.box.lt)
   by_cases hlt:k < n'
   ·obtain ⟨r,hr⟩ : ∃ r,os'[k]? = some r:=⟨_,List.getElem?_eq_getElem (by have:=Hlen.out;omega)⟩
    obtain ⟨u1,u2⟩:=unp_step (g:=x.hd) hr
    have hLl:((os'.take k).map (unp x.hd)++os'.drop k).length=n':=by rw [List.length_append,List.length_map,List.length_take,List.length_drop];have:=Hlen.out;omega
    have z0:=(by simpa using CW.own.objs.cellAt hLl u1 (i:=0) rfl:wr.cell? ⟨gO,k*5,none⟩=some (.int .i64 r.1.hd))
    have z1:=CW.own.objs.cellAt hLl u1 (i:=1) rfl
    have z2:=CW.own.objs.cellAt hLl u1 (i:=2) rfl
    have z3:=CW.own.objs.cellAt hLl u1 (i:=3) rfl
    have z4:=CW.own.objs.cellAt hLl u1 (i:=4) rfl
    have hi:=CW.own.objs.ints r (List.mem_of_getElem? u1)
    obtain ⟨A1,d1,hv1,_,_,_⟩:=OwnV.shape hi.1 (n:=r.1.ws.length) (ivs_length _)
    obtain ⟨A2,d2,hv2,_,_,_⟩:=OwnV.shape hi.2 (n:=r.1.ls.length) (ivs_length _)
    rw [hv1] at z3
    rw [hv2] at z4
    have hrl:=HSl.out r.1 (hsub.out r (List.mem_of_getElem? hr))
    have hki:(k:Int) < (n':Int):=by omega
    obtain ⟨nl,hnl⟩ : ∃ nl,nl=r.1.ls.length:=⟨_,rfl⟩
    obtain ⟨nw,hnw⟩ : ∃ nw,nw=r.1.ws.length:=⟨_,rfl⟩
    rw [← hnl] at z4 hv2 hrl
    rw [← hnw] at z3
    have bx:=(Below.refl wr.heap.size wr).alloc (Nat.le_refl _) (.cells #[.int .i64 r.1.hd, .int .i64 r.1.bl.1, .int .i64 r.1.bl.2, .slice A1 nw d1, .slice A2 nl d2] 60)
    have Kx:=Whole.new wr #[.int .i64 r.1.hd, .int .i64 r.1.bl.1, .int .i64 r.1.bl.2, .slice A1 nw d1, .slice A2 nl d2] 60
    have C9:=CW.below bx
    have B9:=BW.trans (bx.mono hbw)
    have hb9:base≤(wr.alloc (.cells #[.int .i64 r.1.hd, .int .i64 r.1.bl.1, .int .i64 r.1.bl.2, .slice A1 nw d1, .slice A2 nl d2] 60)).heap.size:=Nat.le_trans hbw bx.size
    have hi9:=hi.2.below bx
    have x4:=Kx.cell 4
    simp only [List.getElem?_cons_succ,List.getElem?_cons_zero] at x4
    have HC9:=Lib.hid C9
    have HB9:=Lib.hid B9
    have U1:=Lib.hid u1
    have U2:=Lib.hid u2
    have Hv2:=Lib.hid hv2
    have Hi9:=Lib.hid hi9
    have Hnl:=Lib.hid hnl
    have Hb9:=Lib.hid hb9
    clear CW BW hi hv1 hv2 hr u1 u2 hLl C9 B9 bx Kx hi9 hnl hnw hb9
    by_cases h0:nl=0
    ·subst h0
     have FN:=fun W=>forget_none A2 d2 o.h W
     have Hz:=Lib.hid (show unp x.hd r=r by
      have:r.1.ls = []:=List.eq_nil_of_length_eq_zero Hnl.out.symm
      unfold unp unob
      rw [this]
      simp only [List.map_nil]
      rw [← this])
     go_wp2_with (go_at_call 89;refine (FN _).mono ?_;rintro e w9 ⟨rfl,rfl⟩)
     go_roundw
     case rel=>exact ⟨k+1,by have:=Hlen.out;omega,by go_num,by
      rw [← U2.out,Hz.out,list_set_get U1.out];exact HC9.out,HB9.out⟩
     case measure=>simp [intOf];omega
    ·have hrow:(wr.alloc (.cells #[.int .i64 r.1.hd, .int .i64 r.1.bl.1, .int .i64 r.1.bl.2, .slice A1 nw d1, .slice A2 nl d2] 60)).ownsRow base 3 1 (.slice A2 nl d2) nl (ivs r.1.ls):=by
      have h1:=Hi9.out
      rw [Hv2.out] at h1
      unfold OwnV at h1
      rw [ivs_length, ← Hnl.out] at h1
      exact h1
     obtain ⟨gl,hgl⟩:=row_some hrow (by omega)
     subst hgl
     obtain ⟨post,KR,hcl,hnc,hcm,hgl⟩:=row_whole hrow
     have FA:=forget_any gl 0 nl d2 3 [] post r.1.ls o.h _ (by simpa using KR) rfl Hnl.out.symm (by omega)
     have FP:=Lib.hid fun (W9:World) (K9:Whole W9 gl 3 ([]++(ivs (r.1.ls.map (un o.h))++post))) (hg9:(wr.alloc (.cells #[.int .i64 r.1.hd, .int .i64 r.1.bl.1, .int .i64 r.1.bl.2, .slice A1 nw d1, .slice (some ⟨gl,0,none⟩) nl d2] 60)).grownBy W9 (some gl))=>(HC9.out.putL (w':=W9) (l':=r.1.ls.map (un o.h)) U1.out Hv2.out hg9 (by
      rw [Hv2.out]
      unfold OwnV
      rw [ivs_length,List.length_map, ← Hnl.out]
      exact whole_row K9 (by rw [ivs_length,List.length_map, ← Hnl.out];omega) (by rw [List.length_append,ivs_length] at hcl;rw [List.length_append,ivs_length,List.length_map];exact hcl) hnc hcm hgl))
     have FB:=Lib.hid fun (W9:World) (hg9:(wr.alloc (.cells #[.int .i64 r.1.hd, .int .i64 r.1.bl.1, .int .i64 r.1.bl.2, .slice A1 nw d1, .slice (some ⟨gl,0,none⟩) nl d2] 60)).grownBy W9 (some gl))=>HB9.out.grown hg9 (Nat.le_trans hb (HB9.out.size)) fun j hj=>by injection hj with hj;omega
     clear hrow KR hcl hnc hcm
     go_wp2_with (go_at_call 89;refine FA.mono ?_;rintro e W9 ⟨rfl,K9,hg9⟩)
     go_roundw
     case rel=>exact ⟨k+1,by have:=Hlen.out;omega,by go_num,by
      have h1:=FP.out W9 K9 hg9
      rw [← Hxh.out] at h1
      rw [← U2.out]
      have e2:(({ hd:=r.1.hd,bl:=r.1.bl,ws:=r.1.ws,ls:=r.1.ls.map (un x.hd) } : Ob),r.2)=unp x.hd r:=rfl
      rw [e2] at h1
      rw [List.map_set]
      exact h1,FB.out W9 hg9⟩
     case measure=>simp [intOf];omega
   ·obtain rfl:k=n':=by omega
    have hL:(os'.take k).map (unp x.hd)++os'.drop k=os'.map (unp x.hd):=by
     rw [List.take_of_length_le (by have:=Hlen.out;omega),List.drop_of_length_le (by have:=Hlen.out;omega),List.append_nil]
    rw [hL] at CW
    have KT:Whole wr g 76 ([.int .i64 H.od, .slice (some ⟨gO,0,none⟩) k c, .int .i64 H.nx]++(ivs H.tp ++ [.slice F' m' d'])):=by
     have h1:=CW.box
     rw [tp_list HC0.out]
     exact h1
    have FA:=forget_any g 3 4 4 76 [.int .i64 H.od, .slice (some ⟨gO,0,none⟩) k c, .int .i64 H.nx] [.slice F' m' d'] H.tp o.h wr KT rfl HC0.out (by omega)
    have FP:=Lib.hid fun (W9:World) (K9:Whole W9 g 76 ([.int .i64 H.od, .slice (some ⟨gO,0,none⟩) k c, .int .i64 H.nx]++(ivs (H.tp.map (un o.h)) ++ [.slice F' m' d']))) (hg9:wr.grownBy W9 (some g))=>CW.putT (l':=H.tp.map (un o.h)) hg9 (by
     have h4:(H.tp.map (un o.h)).length=4:=by rw [List.length_map];exact HC0.out
     have h5:(ivs (H.tp.map (un o.h))) = [.int .i64 ((H.tp.map (un o.h)).getD 0 0), .int .i64 ((H.tp.map (un o.h)).getD 1 0), .int .i64 ((H.tp.map (un o.h)).getD 2 0), .int .i64 ((H.tp.map (un o.h)).getD 3 0)]:=by
      obtain ⟨a,b,c,d,e⟩:=list4 h4
      rw [e]
      rfl
     rw [h5] at K9
     exact K9) (by rw [List.length_map];exact HC0.out)
    have FB:=Lib.hid fun (W9:World) (hg9:wr.grownBy W9 (some g))=>BW.grown hg9 hbw fun j hj=>by injection hj with hj;have:=CW.ge;omega
    have Hfo:=Lib.hid (show (os'.map (unp x.hd)).map (·.1)=(H.obs.eraseIdx p).map (unob x.hd) by
     rw [← hobs'.out,List.map_map,List.map_map];rfl)
    have u3:=Tryz.underlying25
    clear hL KT CW BW
    go_wp2_with (go_at_call 89;refine FA.mono ?_;rintro e W9 ⟨rfl,K9,hg9⟩)
    go_ret
    have h1:=FP.out W9 K9 hg9
    rw [Hr.out]
    rw [← Hxh.out] at h1
    rw [Hfo.out] at h1
    exact ⟨_,_,rfl,h1,FB.out W9 hg9⟩
end Go.Proofs.YtcodpnbemdflcaaGreatDoor

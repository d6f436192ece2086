/-
  What a map is in memory, and what New, Len and Get do: contracts, one a function.
  What next and Run do: contracts, one a function.
  What Put does: contracts, one a function.
-/
import Derived.Test.YtcodpnbemdflcaaGreatDoorTg5
import Derived.Test.YtcodpnbemdflcaaGreatDoorTg1
import Derived.Laws.ShiftsVarLaws
import Derived.Lib.ByteType
namespace Go.Proofs.YtcodpnbemdflcaaGreatDoor
open Go.RowKit
theorem Tryz.infoU64:(Tryz.prog.info? 227).map (fun i=>(i.zero,i.size,i.bytes))=some (some (.int .u64 0),1,8):=by kernel_rfl
def wv (x:Nat):Value := .int .u64 (x:Int)
def wvs (ws:List Nat):List Value:=ws.map wv
theorem wvs_get {ws:List Nat} {j x:Nat} (h:ws[j]? = some x):(wvs ws)[j]? = some (.int .u64 (x:Int)):=by simp [wvs,h,wv]
theorem wvs_set (ws:List Nat) (j x:Nat):(wvs ws).set j (.int .u64 (x:Int))=wvs (ws.set j x):=by simp [wvs,List.map_set,wv]
theorem wvs_zero (k:Nat):(reps k (.int .u64 0))=wvs (List.replicate k 0):=by simp [reps,wvs,wv]
def MapAt (w:World) (g h:Nat) (l:List Bool):Prop :=
 ∃ ws:List Nat,Whole w g 292 [.int .i64 (l.length:Int), .slice (some ⟨h,0,none⟩) ws.length ws.length]∧Whole w h 227 (wvs ws)∧Words l ws∧l.length≤4096
section
variable {w w':World} {g h:Nat} {l:List Bool}
theorem MapAt.le (m:MapAt w g h l):l.length≤4096:=by
 obtain ⟨ws,_,_,_,hl⟩:=m
 exact hl
theorem MapAt.ne (m:MapAt w g h l):g≠h:=by
 obtain ⟨ws,h1,h2,_,_⟩:=m
 exact h1.ne h2 (by decide)
theorem MapAt.lt (m:MapAt w g h l):g < w.heap.size∧h < w.heap.size:=by
 obtain ⟨ws,h1,h2,_,_⟩:=m
 exact ⟨h1.lt,h2.lt⟩
theorem MapAt.keep (m:MapAt w g h l) (hg:w'.heap[g]? = w.heap[g]?) (hh:w'.heap[h]? = w.heap[h]?):MapAt w' g h l:=by
 obtain ⟨ws,h1,h2,h3⟩:=m
 exact ⟨ws,h1.keep hg,h2.keep hh,h3⟩
theorem MapAt.below (m:MapAt w g h l) (hb:Below w.heap.size w w'):MapAt w' g h l:=m.keep (hb.block g m.lt.1) (hb.block h m.lt.2)
theorem MapAt.drew (m:MapAt w g h l):MapAt w.drew g h l:=m
end
theorem Tab.keep {w w':World} (h:Tab w) (hk:w'.heap[0]? = w.heap[0]?):Tab w':=fun i hi=>(World.cell?_of_block (w:=w) hk).trans (h i hi)
theorem Tab.lt {w:World} (h:Tab w):0 < w.heap.size:=World.block_lt_of_cell? w _ (h 0 (by omega))
theorem Tab.below {w w':World} (h:Tab w) (hb:Below w.heap.size w w'):Tab w':=h.keep (hb.block _ h.lt)
theorem Tab.drew {w:World} (h:Tab w):Tab w.drew:=h
theorem Tab.beside {w w':World} {r:Nat} (h:Tab w) (hg:w.grownBy w' (some r)) (hr:0≠r):Tab w':=h.keep (hg.block _ h.lt (by simpa using hr))
def Makes (w:World) (l:List Bool) (e:Ending) (w':World):Prop := ∃ g h,e = .returned (.tuple #[.pointer (some ⟨g,0,none⟩), .int .i64 0])∧MapAt w' g h l∧w.heap.size≤g∧w.heap.size≤h∧Below w.heap.size w w'
set_option maxHeartbeats 400000 in
theorem new_yes (n:Nat) (w:World) (hn:n≤4096):Calls Tryz.prog 163 #[.int .i64 (n:Int)] w (Makes w (List.replicate n false)):=by
 have u:=units_any n 64 (by omega) (by omega) (by omega) w
 rw [show n+64 - 1=n+63 by omega] at u
 obtain ⟨k,hk⟩ : ∃ k,k=(n+63) / 64:=⟨_,rfl⟩
 rw [← hk] at u
 have hk2:k≤64:=by omega
 have hmk:=run_makeV (P:=Tryz.prog) Tryz.underlying290 Tryz.infoU64 rfl k (by omega) (by omega) w
 have h0:decide ((n:Int) < 0)=false:=by simp
 have h1:decide (4096 < (n:Int))=false:=by simp;omega
 have Hk:=Lib.hid hk
 clear hk
 go_enter Tryz.func163,Tryz.ntmps163
 go_wp2_with (go_at_call 218;refine u.mono ?_;rintro e w1 ⟨rfl,rfl⟩)
 go_ret2
 refine ⟨w.heap.size+1,w.heap.size,by simp,⟨List.replicate k 0,?_,?_,by rw [Hk.out];exact words_zero n,by simpa using hn⟩,by omega,by omega,((Below.refl _ _).alloc (Nat.le_refl _) _).alloc (by simp) _⟩
 ·have:=Whole.new (w.alloc (.cells (reps k (.int .u64 0)).toArray 227)) #[.int .i64 (n:Int), .slice (some ⟨w.heap.size,0,none⟩) k k] 292
  simpa using this
 ·rw [← wvs_zero]
  exact (Whole.new w _ _).alloc _
end Go.Proofs.YtcodpnbemdflcaaGreatDoor
namespace Go.Proofs.YtcodpnbemdflcaaGreatDoor
open Go.RowKit
theorem not64 (x:Nat) (hx:x < 18446744073709551616):bits .xor .u64 18446744073709551615 (x:Int)=((seek x false:Nat):Int):=by
 have e:(18446744073709551615:Nat) ^^^ x=seek x false:=by
  apply word_ext (Nat.xor_lt_two_pow (n:=64) (by omega) hx) (seek_lt hx false)
  intro k hk
  rw [Nat.testBit_xor,seek_bit hx false hk,show (18446744073709551615:Nat)=2 ^ 64 - 1 from rfl,Nat.testBit_two_pow_sub_one,decide_eq_true hk]
  cases x.testBit k <;> rfl
 rw [show (18446744073709551615:Int)=((18446744073709551615:Nat):Int) from rfl,bits_xor_u64_nat _ _ (by omega) hx,e]
def NextRel (l:List Bool) (a:Nat) (on:Bool) (v:Value):Prop := ∃ p:Nat,v = .int .i64 (p:Int)∧a≤p ∧ ∀ j,a≤j→j < p→isOn l j≠on
set_option maxHeartbeats 1000000 in
theorem next_any (g h:Nat) (l:List Bool) (a:Nat) (on:Bool) (w:World) (m:MapAt w g h l) (hT:Tab w) :
  Calls Tryz.prog 230 #[.pointer (some ⟨g,0,none⟩), .int .i64 (a:Int), .bool on] w fun e w'=>e = .returned (.int .i64 (nextL l a on:Nat))∧w=w':=by
 obtain ⟨ws,h1,h2,hw,hl⟩:=m
 have c0:=h1.cell 0
 have c1:=h1.cell 1
 obtain ⟨n,hn⟩ : ∃ n,n=l.length:=⟨_,rfl⟩
 obtain ⟨k,hk⟩ : ∃ k,k=ws.length:=⟨_,rfl⟩
 rw [← hn] at c0 hl
 rw [← hk] at c1
 have Hn:=Lib.hid hn
 have Hk:=Lib.hid hk
 clear h1 hn hk
 have hsg:IntKind.u64.signed=false:=rfl
 have hmx:IntKind.u64.max=18446744073709551615:=rfl
 go_enter Tryz.func230,Tryz.ntmps230
 go_wp2
 go_loop [1] (NextRel l a on) (fun i=>n - (intOf i).toNat)
 case atStart=>exact ⟨a,rfl,Nat.le_refl _,fun j h1 h2=>absurd h1 (by omega)⟩
 case round =>
  obtain ⟨p,rfl,hap,hno⟩:=hrel
  by_cases hlt:p < n
  ·have hpl:p < l.length:=by rw [← Hn.out];exact hlt
   obtain ⟨x,hx,hxl,hb⟩:=hw.get hpl
   have cx:=h2.cell (p / 64)
   rw [wvs_get hx] at cx
   have hq:p / 64 < ws.length:=(List.getElem?_eq_some_iff.1 hx).1
   rw [← Hk.out] at hq
   obtain ⟨y,hy⟩ : ∃ y,seek x on / 2 ^ (p % 64)=y:=⟨_,rfl⟩
   have e4:((seek x on:Nat):Int) / (2:Int) ^ (p % 64)=(y:Int):=by rw [← hy];simp
   have hfound:=fun h0:y≠0=>next_found hpl hxl hb hy h0
   have hnone:=fun h0:y=0=>next_none hxl hb (hy.trans h0)
   have e5:=not64 x hxl
   have e6:seek x true=x:=rfl
   obtain ⟨q,hqe⟩ : ∃ q,q=p / 64:=⟨_,rfl⟩
   obtain ⟨r,hre⟩ : ∃ r,r=p % 64:=⟨_,rfl⟩
   have e1:(p:Int) / 64=(q:Int):=by omega
   have e2:(p:Int) % 64=(r:Int):=by omega
   have e3:min r 64=r:=by omega
   rw [← hqe] at cx hq
   rw [← hre] at e4 hnone
   have hr64:r < 64:=by omega
   clear hx hb hy hqe hre hpl
   by_cases h0:y=0
   ·have t1:((y:Int) != 0)=false:=by simp [h0]
    have t2:((y:Int) == 0)=true:=by simp [h0]
    have hno2:=Lib.hid (hnone h0)
    have Hno:=Lib.hid hno
    clear hfound hnone hno h0
    have step:NextRel l a on (.int .i64 ((p+(64 - r):Nat):Int)):=⟨_,rfl,by omega,fun j h1 h2=>by
     rcases Nat.lt_or_ge j p with h3 | h3
     ·exact Hno.out j h1 h3
     ·exact hno2.out j h3 h2⟩
    have Step:=Lib.hid step
    have E7:Hid ((p:Int)+(64 - (r:Int))=((p+(64 - r):Nat):Int)):=Lib.hid (by omega)
    clear step Hno hno2
    cases on
    ·go_wp2
     refine ⟨?_,by simp [intOf];omega⟩
     rw [E7.out]
     exact Step.out
    ·rw [e6] at e4
     go_wp2
     refine ⟨?_,by simp [intOf];omega⟩
     rw [E7.out]
     exact Step.out
   ·obtain ⟨hyl,hnext⟩:=hfound h0
    have t1:((y:Int) != 0)=true:=by simp [h0]
    have t2:((y:Int) == 0)=false:=by simp [h0]
    have hval:nextL l a on=p+Lib.ctz 64 y:=IsNext.val ⟨hnext.1,fun j h1 h2=>by
     rcases Nat.lt_or_ge j p with h3 | h3
     ·exact hno j h1 h3
     ·exact hnext.2.1 j h3 h2,fun h1=>⟨(hnext.2.2 h1).1,by omega⟩⟩
    have hle:=hnext.1
    rw [← Hn.out] at hle
    have Hval:=Lib.hid hval
    clear hfound hnone hno hval hnext
    cases on
    ·go_wp2_with (go_at_call 254;refine (tz_any y hyl h0 w hT).mono ?_;rintro e w1 ⟨rfl,rfl⟩)
     go_ret
     exact ⟨congrArg (fun z:Int=>Ending.returned (.int .i64 z)) (by rw [Hval.out];omega),rfl⟩
    ·rw [e6] at e4
     go_wp2_with (go_at_call 254;refine (tz_any y hyl h0 w hT).mono ?_;rintro e w1 ⟨rfl,rfl⟩)
     go_ret
     exact ⟨congrArg (fun z:Int=>Ending.returned (.int .i64 z)) (by rw [Hval.out];omega),rfl⟩
  ·have hval:nextL l a on=n:=IsNext.val ⟨by rw [Hn.out];exact Nat.le_refl _,fun j h1 h2=>hno j h1 (by omega),fun h1=>by rw [Hn.out] at h1;exact absurd h1 (Nat.lt_irrefl _)⟩
   have Hval:=Lib.hid hval
   clear hno hval
   go_wp2
   go_ret
   exact ⟨congrArg (fun z:Nat=>Ending.returned (.int .i64 (z:Int))) Hval.out.symm,rfl⟩
def RunRel (l:List Bool) (a n:Nat) (on:Bool) (v:Value):Prop := ∃ p:Nat,v = .int .i64 (p:Int)∧Seen l a n on p
set_option maxHeartbeats 1000000 in
theorem run_any (g h:Nat) (l:List Bool) (a n:Int) (on:Bool) (w:World) (m:MapAt w g h l) (hT:Tab w) :
  Calls Tryz.prog 180 #[.pointer (some ⟨g,0,none⟩), .int .i64 a, .int .i64 n, .bool on] w fun e w'=>e = .returned (.int .i64 (runL l a n on))∧w=w':=by
 by_cases hn:n < 1
 ·have e:runL l a n on = -1:=by unfold runL;rw [if_pos hn]
  rw [e]
  go_enter Tryz.func180,Tryz.ntmps180
  go_wp2
  go_ret
  exact ⟨rfl,rfl⟩
 ·obtain ⟨k,hk⟩ : ∃ k:Nat,n=(k:Int):=⟨n.toNat,by omega⟩
  subst hk
  have hk1:1≤k:=by omega
  obtain ⟨b,hb⟩ : ∃ b:Nat,(if a < 0 then (0:Int) else a)=(b:Int):=⟨a.toNat,by split <;> omega⟩
  have hab : ∀ i:Nat,a≤(i:Int) ↔ b≤i:=fun i=>by split at hb <;> omega
  obtain ⟨ws,h1,h2,hw,hl⟩:=id m
  have c0:=h1.cell 0
  obtain ⟨z,hz⟩ : ∃ z,z=l.length:=⟨_,rfl⟩
  rw [← hz] at c0 hl
  have Hz:=Lib.hid hz
  clear h1 h2 hz hw
  go_enter Tryz.func180,Tryz.ntmps180
  go_wp2_with fail
  refine (next_any g h l b on w m hT).mono ?_
  rintro e w1 ⟨rfl,rfl⟩
  go_wp2_with fail
  clear hb
  go_loop [9] (RunRel l b k on) (fun i=>z - (intOf i).toNat)
  case atStart=>exact ⟨_,rfl,seen_first hk1⟩
  case round =>
   obtain ⟨p,rfl,seen⟩:=hrel
   have hple:=seen.le
   rw [← Hz.out] at hple
   by_cases hlt:p < z
   ·have hpl:p < l.length:=by rw [← Hz.out];exact hlt
    obtain ⟨s1,s2,s3⟩:=seen.ends hpl
    obtain ⟨q,hq⟩ : ∃ q,q=nextL l p (!on):=⟨_,rfl⟩
    have N1:=next_any g h l p (!on) w m hT
    have hfound:=seen.found hpl
    have hstep:=seen.step hpl hk1
    rw [← hq] at s1 s2 N1 hfound hstep
    have hab0:=seen.here hpl
    rw [← Hz.out] at s2
    by_cases hr:k≤q - p
    ·have hval:runL l a (k:Int) on=(p:Int):=runL_some (by omega) hpl ((hab p).2 hab0.2) (by rw [Int.toNat_natCast];exact hfound hr) fun j hj ha=>by rw [Int.toNat_natCast];exact seen.no j ((hab j).1 ha) hj
     have Hval:=Lib.hid hval
     have t1:(k:Int)≤(q:Int) - (p:Int):=by omega
     clear hval hfound hstep hq hab0 seen s3 hpl hab
     go_wp2_with (go_at_call 230;refine N1.mono ?_;rintro e w1 ⟨rfl,rfl⟩)
     go_ret
     exact ⟨congrArg (fun z:Int=>Ending.returned (.int .i64 z)) Hval.out.symm,rfl⟩
    ·have t1 : ¬ (k:Int)≤(q:Int) - (p:Int):=by omega
     obtain ⟨seen2,hlt2⟩:=hstep (by omega)
     have N2:=next_any g h l q on w m hT
     obtain ⟨q2,hq2⟩ : ∃ q2,q2=nextL l q on:=⟨_,rfl⟩
     rw [← hq2] at seen2 hlt2 N2
     have hle2:=seen2.le
     rw [← Hz.out] at hle2
     have Seen2:=Lib.hid seen2
     clear seen2 hfound hstep hq hq2 hab0 seen s3 hpl hab
     go_wp2_with (first | (go_at_call 230;refine N1.mono ?_;rintro e w1 ⟨rfl,rfl⟩;clear N1) | (go_at_call 230;refine N2.mono ?_;rintro e w1 ⟨rfl,rfl⟩))
     refine ⟨⟨q2,rfl,Seen2.out⟩,by simp [intOf];omega⟩
   ·have hval:runL l a (k:Int) on = -1:=runL_none fun i hi ha=>by rw [Int.toNat_natCast];exact seen.no i ((hab i).1 ha) (by rw [← Hz.out] at hi;omega)
    have Hval:=Lib.hid hval
    clear hval seen hab
    go_wp2
    go_ret
    exact ⟨congrArg (fun z:Int=>Ending.returned (.int .i64 z)) Hval.out.symm,rfl⟩
end Go.Proofs.YtcodpnbemdflcaaGreatDoor
namespace Go.Proofs.YtcodpnbemdflcaaGreatDoor
open Go.RowKit
def Turns (w:World) (h:Nat) (ws:List Nat) (e:Ending) (w':World):Prop:=e = .returned (.tuple #[])∧Whole w' h 227 (wvs ws)∧w.grownBy w' (some h)
set_option maxHeartbeats 400000 in
theorem turnSome_any (h j x mk:Nat) (on:Bool) (ws:List Nat) (w:World) (hw:Whole w h 227 (wvs ws)) (hx:ws[j]? = some x) (hxl:x < 18446744073709551616) (hm:mk < 18446744073709551616) :
  Calls Tryz.prog 251 #[.pointer (some ⟨h,j,none⟩), .int .u64 (mk:Int), .bool on] w (Turns w h (ws.set j (turned x mk on))):=by
 have c:=hw.cell j
 rw [wvs_get hx] at c
 have f:=hw.free j
 have hs:=hw.set j (.int .u64 ((turned x mk on:Nat):Int))
 rw [wvs_set] at hs
 have hg:=grown_set w h j (.int .u64 ((turned x mk on:Nat):Int))
 have e1:bits .or .u64 (x:Int) (mk:Int)=((turned x mk true:Nat):Int):=u64_or_nat x mk hxl hm
 have e2:bits .andNot .u64 (x:Int) (mk:Int)=((turned x mk false:Nat):Int):=u64_andNot_nat x mk hxl hm
 clear hx hw
 cases on
 all_goals
  go_enter Tryz.func251,Tryz.ntmps251
  go_wp2
  go_end0
  exact ⟨rfl,hs,hg⟩
def fillW (ws:List Nat) (o n v:Nat):List Nat:=(List.range ws.length).map fun j=>if o≤j∧j < o+n then v else ws.getD j 0
theorem fillW_length (ws:List Nat) (o n v:Nat):(fillW ws o n v).length=ws.length:=by simp [fillW]
theorem fillW_none (ws:List Nat) (o v:Nat):fillW ws o 0 v=ws:=by
 apply List.ext_getElem?
 intro j
 rcases Nat.lt_or_ge j ws.length with hj | hj
 ·simp only [fillW,List.getElem?_map,List.getElem?_range hj,Option.map_some,if_neg (show ¬ (o≤j∧j < o+0) by omega)]
  simp [List.getD,hj]
 ·rw [List.getElem?_eq_none (by rw [fillW_length];exact hj),List.getElem?_eq_none hj]
theorem fillW_succ (ws:List Nat) (o n v:Nat):(fillW ws o n v).set (o+n) v=fillW ws o (n+1) v:=by
 apply List.ext_getElem?
 intro j
 rcases Nat.lt_or_ge j ws.length with hj | hj
 ·by_cases he:o+n=j
  ·subst he
   rw [List.getElem?_set_self (by rw [fillW_length];exact hj)]
   simp [fillW,hj]
  ·rw [List.getElem?_set_ne he]
   simp only [fillW,List.getElem?_map,List.getElem?_range hj,Option.map_some]
   congr 1
   have:(o≤j∧j < o+n) ↔ (o≤j∧j < o+(n+1)):=by omega
   simp only [this]
 ·rw [List.getElem?_eq_none (by rw [List.length_set,fillW_length];exact hj),List.getElem?_eq_none (by rw [fillW_length];exact hj)]
theorem sets_fill (w:World) (h:Nat) (v:Nat) : ∀ (n m o:Nat) (ws:List Nat) (wr:World),Whole wr h 227 (wvs (fillW ws o m v))→w.grownBy wr (some h) →
  Whole (wr.setCells h (o+m) (List.replicate n (wv v))) h 227 (wvs (fillW ws o (m+n) v))∧w.grownBy (wr.setCells h (o+m) (List.replicate n (wv v))) (some h)
 | 0,m,o,ws,wr,hw,hg=>⟨hw,hg⟩
 | n+1,m,o,ws,wr,hw,hg=>by
  have h1:=hw.set (o+m) (wv v)
  rw [show wv v = .int .u64 (v:Int) from rfl,wvs_set,fillW_succ] at h1
  have:=sets_fill w h v n (m+1) o ws (wr.setCell ⟨h,o+m,none⟩ (wv v)) h1 (grown_trans hg (grown_set _ _ _ _))
  rw [show m+(n+1)=m+1+n by omega]
  exact this
def FillW (ws:List Nat) (h o n v:Nat) (w:World) (i:Value) (wr:World):Prop := ∃ k:Nat,k≤n∧i = .int .i64 k∧Whole wr h 227 (wvs (fillW ws o k v))∧w.grownBy wr (some h)
set_option maxHeartbeats 400000 in
theorem turnAll_any (h o n c:Nat) (on:Bool) (ws:List Nat) (w:World) (hw:Whole w h 227 (wvs ws)) (ho:o+n≤ws.length) (hl:ws.length≤64) :
  Calls Tryz.prog 252 #[.slice (some ⟨h,o,none⟩) n c, .bool on] w (Turns w h (fillW ws o n (if on then 18446744073709551615 else 0))):=by
 cases on
 ·by_cases h0:n=0
  ·subst h0
   have hrun : ∀ ty,(Builtin.clear_ #[290] ty #[.slice (some ⟨h,o,none⟩) 0 c]).run Tryz.prog w = .ok (.tuple #[]) w:=fun ty=>by
    simp [Builtin.clear_,run_underlying Tryz.underlying290]
   rw [fillW_none]
   go_enter Tryz.func252,Tryz.ntmps252
   go_wp2
   refine bodyPost_ret (results_none rfl _ _ _) rfl ?_
   exact ⟨rfl,hw,grown_refl _ _⟩
  ·have hrun:=fun ty=>Lib.run_clear_slice (P:=Tryz.prog) w 290 227 ty (.int .u64 0) Tryz.underlying290 (fun _=>by kernel_rfl) rfl rfl h o n c (by omega)
    (fun j hj=>by rw [hw.cell,wvs_get (List.getElem?_eq_getElem (show o+j < ws.length by omega))];rfl) (fun j _=>hw.free _)
   obtain ⟨r1,r2⟩:=sets_fill w h 0 n 0 o ws w (by rw [fillW_none];exact hw) (grown_refl _ _)
   obtain ⟨w1,hw1⟩ : ∃ w1,w1=w.setCells h (o+0) (List.replicate n (wv 0)):=⟨_,rfl⟩
   rw [← hw1] at r1 r2
   rw [Nat.zero_add] at r1
   change ∀ ty,_=Result.ok _ (w.setCells h (o+0) (List.replicate n (wv 0))) at hrun
   rw [← hw1] at hrun
   clear hw1
   go_enter Tryz.func252,Tryz.ntmps252
   go_wp2
   refine bodyPost_ret (results_none rfl _ _ _) rfl ?_
   exact ⟨rfl,r1,r2⟩
 ·rw [if_pos rfl]
  go_enter Tryz.func252,Tryz.ntmps252
  go_wp2
  go_loopw [10] (FillW ws h o n 18446744073709551615 w) (fun i _=>n - (intOf i).toNat)
  case atStart=>exact ⟨0,by omega,rfl,by rw [fillW_none];exact hw,grown_refl _ _⟩
  case round =>
   obtain ⟨k,hk,rfl,hr,hg⟩:=hrel
   by_cases hlt:k < n
   ·have hj:o+k < (fillW ws o k 18446744073709551615).length:=by rw [fillW_length];omega
    have c:=hr.cell (o+k)
    rw [wvs_get (List.getElem?_eq_getElem hj)] at c
    obtain ⟨u,hu⟩ : ∃ u,wr.cell? ⟨h,o+k,none⟩=some u:=⟨_,c⟩
    have f:=hr.free (o+k)
    have hs:=hr.set (o+k) (wv 18446744073709551615)
    rw [show wv 18446744073709551615 = .int .u64 ((18446744073709551615:Nat):Int) from rfl,wvs_set,fillW_succ] at hs
    have hg2:=grown_trans hg (grown_set wr h (o+k) (.int .u64 ((18446744073709551615:Nat):Int)))
    clear c hr hw hj
    go_wp2
    go_roundw
    case rel=>exact ⟨k+1,by omega,by go_num,hs,hg2⟩
    case measure=>simp [intOf];omega
   ·obtain rfl:k=n:=by omega
    clear hw
    go_wp2
    go_end0
    exact ⟨rfl,hr,hg⟩
def Puts (w:World) (g h:Nat) (l:List Bool) (e:Ending) (w':World):Prop:=e = .returned (.tuple #[])∧MapAt w' g h l∧w.grownBy w' (some h)
theorem fromM_num (r:Nat):IntKind.u64.wrap (18446744073709551615*(2:Int) ^ r)=((fromM r:Nat):Int):=by
 rw [IntKind.wrap_u64]
 unfold fromM
 simp
theorem uptoM_num (u:Nat) (hu:u≤63):(18446744073709551615:Int) / (2:Int) ^ u=((uptoM (63 - u):Nat):Int):=by
 unfold uptoM
 rw [show 63 - (63 - u)=u by omega]
 simp
theorem map_turns {w w':World} {g h:Nat} {l l':List Bool} {ws ws':List Nat} (hgh:g≠h) (h1:Whole w g 292 [.int .i64 (l.length:Int), .slice (some ⟨h,0,none⟩) ws.length ws.length]) (hl:l.length≤4096) (he:l'.length=l.length) (hw:Words l' ws') (hlen:ws'.length=ws.length)
  (h2:Whole w' h 227 (wvs ws')) (hg:w.grownBy w' (some h)):MapAt w' g h l' :=
 ⟨ws',by rw [he,hlen];exact h1.grown hg hgh,h2,hw,by rw [he];exact hl⟩
set_option maxHeartbeats 1000000 in
theorem turn_one (g h:Nat) (l:List Bool) (f t:Nat) (on:Bool) (w:World) (m:MapAt w g h l) (hft:f≤t) (ht:t < l.length) (he:f / 64=t / 64) :
  Calls Tryz.prog 219 #[.pointer (some ⟨g,0,none⟩), .int .i64 (f:Int), .int .i64 (t:Int), .bool on] w (Puts w g h (putL l f (t+1 - f) on)):=by
 have hgh:=m.ne
 obtain ⟨ws,h1,h2,hw,hl⟩:=m
 have c1:=h1.cell 1
 obtain ⟨x,hx,hxl,_⟩:=hw.get (i:=f) (by omega)
 have hput:=hw.put_one on hft ht he hx
 have hq:f / 64 < ws.length:=(List.getElem?_eq_some_iff.1 hx).1
 obtain ⟨q,hqe⟩ : ∃ q,q=f / 64:=⟨_,rfl⟩
 obtain ⟨r,hre⟩ : ∃ r,r=f % 64:=⟨_,rfl⟩
 obtain ⟨s,hse⟩ : ∃ s,s=t % 64:=⟨_,rfl⟩
 obtain ⟨u,hue⟩ : ∃ u,u=63 - s:=⟨_,rfl⟩
 have hus:63 - u=s:=by omega
 have hq64:q≤64:=by omega
 have e1:(f:Int) / 64=(q:Int):=by omega
 have e2:(f:Int) % 64=(r:Int):=by omega
 have e3:min r 64=r:=by omega
 have e4:(t:Int) / 64=(q:Int):=by omega
 have e5:(t:Int) % 64=(s:Int):=by omega
 have e6:(63:Int) - (s:Int)=(u:Int):=by omega
 have e7:min u 64=u:=by omega
 have e8:=fromM_num r
 have e9:=uptoM_num u (by omega)
 rw [hus] at e9
 have e10:=u64_and_nat (fromM r) (uptoM s) (fromM_lt r) (uptoM_lt s)
 rw [← hqe, ← hre, ← hse] at hput
 rw [← hqe] at hx hq
 have S:=turnSome_any h q x (fromM r &&& uptoM s) on ws w h2 hx hxl (Nat.and_lt_two_pow (n:=64) _ (uptoM_lt s))
 have H1:=Lib.hid h1
 obtain ⟨k,hk⟩ : ∃ k,k=ws.length:=⟨_,rfl⟩
 have hlen:(ws.set q (turned x (fromM r &&& uptoM s) on)).length=ws.length:=by simp
 have Hlen:=Lib.hid hlen
 rw [← hk] at c1 hq
 have Hput:=Lib.hid hput
 have Hl:=Lib.hid hl
 clear h1 h2 hw hx hqe hre hse hue hus he hput hk hlen hl
 go_enter Tryz.func219,Tryz.ntmps219
 go_wp2_with (go_at_call 251;refine S.mono ?_;rintro e w1 ⟨rfl,hwh,hg⟩)
 refine bodyPost_ret (results_none rfl _ _ _) rfl ?_
 exact ⟨rfl,map_turns hgh H1.out Hl.out (putL_length ..) Hput.out Hlen.out hwh hg,hg⟩
theorem many_eq (ws:List Nat) (p q x y v:Nat) (hpq:p < q):(fillW (ws.set p x) (p+1) (q - (p+1)) v).set q y=putMany ws p q x y v:=by
 apply List.ext_getElem?
 intro j
 rcases Nat.lt_or_ge j ws.length with hj | hj
 ·have e:(putMany ws p q x y v)[j]? = some (if j=p then x else if j=q then y else if p < j∧j < q then v else ws.getD j 0):=by simp [putMany,hj]
  rw [e]
  by_cases h1:q=j
  ·subst h1
   rw [List.getElem?_set_self (by rw [fillW_length,List.length_set];exact hj),if_neg (by omega),if_pos rfl]
  ·rw [List.getElem?_set_ne h1,fillW,List.getElem?_map,List.getElem?_range (by rw [List.length_set];exact hj),Option.map_some]
   congr 1
   by_cases h2:j=p
   ·subst h2
    rw [if_neg (by omega),if_pos rfl,List.getD_eq_getElem?_getD,List.getElem?_set_self hj]
    rfl
   ·have h1' : ¬ j=q:=fun e=>h1 e.symm
    rw [if_neg h2,if_neg h1']
    by_cases h3:p < j∧j < q
    ·rw [if_pos h3,if_pos (by omega)]
    ·rw [if_neg h3,if_neg (by omega),List.getD_eq_getElem?_getD,List.getElem?_set_ne (by omega),List.getD_eq_getElem?_getD]
 ·rw [List.getElem?_eq_none (by rw [List.length_set,fillW_length,List.length_set];exact hj),List.getElem?_eq_none (by simp [putMany];exact hj)]
set_option maxHeartbeats 2000000 in
theorem turn_many (g h:Nat) (l:List Bool) (f t:Nat) (on:Bool) (w:World) (m:MapAt w g h l) (ht:t < l.length) (he:f / 64 < t / 64) :
  Calls Tryz.prog 219 #[.pointer (some ⟨g,0,none⟩), .int .i64 (f:Int), .int .i64 (t:Int), .bool on] w (Puts w g h (putL l f (t+1 - f) on)):=by
 have hgh:=m.ne
 obtain ⟨ws,h1,h2,hw,hl⟩:=m
 obtain ⟨x,hx,hxl,_⟩:=hw.get (i:=f) (by omega)
 obtain ⟨y,hy,hyl,_⟩:=hw.get (i:=t) ht
 have hput:=hw.put_many on ht he hx hy
 have hq:t / 64 < ws.length:=(List.getElem?_eq_some_iff.1 hy).1
 have hws:=hw.len
 obtain ⟨p,hpe⟩ : ∃ p,p=f / 64:=⟨_,rfl⟩
 obtain ⟨q,hqe⟩ : ∃ q,q=t / 64:=⟨_,rfl⟩
 obtain ⟨r,hre⟩ : ∃ r,r=f % 64:=⟨_,rfl⟩
 obtain ⟨s,hse⟩ : ∃ s,s=t % 64:=⟨_,rfl⟩
 obtain ⟨u,hue⟩ : ∃ u,u=63 - s:=⟨_,rfl⟩
 have hus:63 - u=s:=by omega
 have hq64:q≤64:=by omega
 have hpq:p < q:=by omega
 have e1:(f:Int) / 64=(p:Int):=by omega
 have e2:(f:Int) % 64=(r:Int):=by omega
 have e3:min r 64=r:=by omega
 have e4:(t:Int) / 64=(q:Int):=by omega
 have e5:(t:Int) % 64=(s:Int):=by omega
 have e6:(63:Int) - (s:Int)=(u:Int):=by omega
 have e7:min u 64=u:=by omega
 have e8:=fromM_num r
 have e9:=uptoM_num u (by omega)
 rw [hus] at e9
 rw [← hpe, ← hqe, ← hre, ← hse] at hput
 rw [← hpe] at hx
 rw [← hqe] at hy hq
 rw [← many_eq ws p q _ _ _ hpq] at hput
 obtain ⟨ws1,hs1⟩ : ∃ ws1,ws1=ws.set p (turned x (fromM r) on):=⟨_,rfl⟩
 have S1:=turnSome_any h p x (fromM r) on ws w h2 hx hxl (fromM_lt r)
 have hl1:ws1.length=ws.length:=by rw [hs1,List.length_set]
 have S2:=fun (w1:World) (hw1:Whole w1 h 227 (wvs ws1))=>turnAll_any h (p+1) (q - (p+1)) (ws.length - (p+1)) on ws1 w1 hw1 (by omega) (by omega)
 have hy2:(fillW ws1 (p+1) (q - (p+1)) (if on then 18446744073709551615 else 0))[q]? = some y:=by
  rw [fillW,List.getElem?_map,List.getElem?_range (by omega),Option.map_some,if_neg (by omega),List.getD_eq_getElem?_getD,hs1,List.getElem?_set_ne (by omega),hy]
  rfl
 rw [← hs1] at S1 hput
 have S3:=fun (w1:World) (hw1:Whole w1 h 227 (wvs (fillW ws1 (p+1) (q - (p+1)) (if on then 18446744073709551615 else 0))))=>turnSome_any h q y (uptoM s) on _ w1 hw1 hy2 hyl (uptoM_lt s)
 have hlen:((fillW ws1 (p+1) (q - (p+1)) (if on then 18446744073709551615 else 0)).set q (turned y (uptoM s) on)).length=ws.length:=by rw [List.length_set,fillW_length,hl1]
 have Hlen:=Lib.hid hlen
 have H1:=Lib.hid h1
 have Hput:=Lib.hid hput
 have Hl:=Lib.hid hl
 obtain ⟨k,hk⟩ : ∃ k,k=ws.length:=⟨_,rfl⟩
 rw [← hk] at hq S2
 have hcut : ∀ W:World,(Instr.slice 290 (.slice (some ⟨h,0,none⟩) k k) (some (.int .i64 ((p:Int)+1))) (some (.int .i64 (q:Int))) none).run Tryz.prog W = .ok (.slice (some ⟨h,p+1,none⟩) (q - (p+1)) (k - (p+1))) W:=fun W=>by
  have he:Tryz.prog.elem 290=227:=by simp [Program.elem,Tryz.underlying290]
  rw [run_slice_lh W 290 _ k k (by rw [he];exact Tryz.underlying290) .i64 .i64 ((p:Int)+1) (q:Int) (by omega) (by omega) (by omega),he]
  have hsz:(sizeOf 227).run Tryz.prog W = .ok 1 W:=by kernel_rfl
  rw [hsz]
  simp only [Result.andThen,sliced,Int.toNat_natCast,Nat.mul_one,show ((p:Int)+1).toNat=p+1 by omega]
  rw [if_neg (by omega)]
  simp [Addr.add]
 have HS2:=Lib.hid S2
 have HS3:=Lib.hid S3
 have K : ∀ w1:World,w.grownBy w1 (some h)→w1.cell? ⟨g,1,none⟩=some (.slice (some ⟨h,0,none⟩) k k):=fun w1 hg=>by rw [(H1.out.grown hg hgh).cell 1,hk];rfl
 have c1:=K w (grown_refl _ _)
 have HK:=Lib.hid K
 have t1:((p:Int) == (q:Int))=false:=by simp;omega
 clear h1 h2 hw hx hy hpe hqe hre hse hue hus he hput hk hlen hl hl1 hws S2 S3 hy2 K hs1
 go_enter Tryz.func219,Tryz.ntmps219
 go_wp2_with fail
 refine S1.mono ?_
 rintro e w1 ⟨rfl,hw1,hg1⟩
 have c2:=HK.out _ hg1
 clear S1 c1
 go_wp2_with fail
 refine (HS2.out _ hw1).mono ?_
 rintro e w2 ⟨rfl,hw2,hg2⟩
 have hg12:=grown_trans hg1 hg2
 have c3:=HK.out _ hg12
 clear c2 hw1 HS2
 go_wp2_with fail
 refine (HS3.out _ hw2).mono ?_
 rintro e w3 ⟨rfl,hw3,hg3⟩
 have hg13:=grown_trans hg12 hg3
 clear c3 hw2 HS3
 go_wp2_with fail
 go_end0
 exact ⟨rfl,map_turns hgh H1.out Hl.out (putL_length ..) Hput.out Hlen.out hw3 hg13,hg13⟩
def mayPut (l:List Bool) (a n:Int):Bool:=decide (0≤a∧0≤n∧n≤(l.length:Int) - a)
def putE (l:List Bool) (a n:Int):Int:=if mayPut l a n then 0 else 30
def putV (l:List Bool) (a n:Int) (on:Bool):List Bool:=if mayPut l a n then putL l a.toNat n.toNat on else l
def PutPost (w:World) (g h:Nat) (l:List Bool) (er:Int) (e:Ending) (w':World):Prop:=e = .returned (.int .i64 er)∧MapAt w' g h l∧w.grownBy w' (some h)
set_option maxHeartbeats 1000000 in
theorem put_any (g h:Nat) (l:List Bool) (a n:Int) (on:Bool) (w:World) (m:MapAt w g h l) (ha:a≤9223372036854775807) :
  Calls Tryz.prog 165 #[.pointer (some ⟨g,0,none⟩), .int .i64 a, .int .i64 n, .bool on] w (PutPost w g h (putV l a n on) (putE l a n)):=by
 obtain ⟨ws,h1,h2,hw,hl⟩:=id m
 have c0:=h1.cell 0
 clear h1 h2 hw
 by_cases hi:0≤a∧0≤n∧n≤(l.length:Int) - a
 ·have e1:putV l a n on=putL l a.toNat n.toNat on:=by unfold putV mayPut;rw [decide_eq_true hi];rfl
  have e2:putE l a n=0:=by unfold putE mayPut;rw [decide_eq_true hi];rfl
  rw [e1,e2]
  obtain ⟨h01,h02,h03⟩:=hi
  obtain ⟨i,rfl⟩:=Int.eq_ofNat_of_zero_le h01
  obtain ⟨k,rfl⟩:=Int.eq_ofNat_of_zero_le h02
  rw [Int.toNat_natCast,Int.toNat_natCast]
  have t0:decide ((i:Int) < 0)=false:=by simp
  have t1:decide ((k:Int) < 0)=false:=by simp
  have t2:decide ((l.length:Int) - (i:Int) < (k:Int))=false:=by simp;omega
  by_cases hk:k=0
  ·subst hk
   rw [putL_none]
   clear e1 e2
   go_enter Tryz.func165,Tryz.ntmps165
   go_wp2
   go_ret
   exact ⟨rfl,m,grown_refl _ _⟩
  ·have T:Calls Tryz.prog 219 #[.pointer (some ⟨g,0,none⟩), .int .i64 (i:Int), .int .i64 ((i+k - 1:Nat):Int), .bool on] w (Puts w g h (putL l i k on)):=by
    have e:i+k - 1+1 - i=k:=by omega
    by_cases he:i / 64=(i+k - 1) / 64
    ·have:=turn_one g h l i (i+k - 1) on w m (by omega) (by omega) he
     rw [e] at this
     exact this
    ·have:=turn_many g h l i (i+k - 1) on w m (by omega) (by omega)
     rw [e] at this
     exact this
   have e3:((i+k - 1:Nat):Int)=(i:Int)+(k:Int) - 1:=by omega
   rw [e3] at T
   have t3:decide (0 < (k:Int))=true:=by simp;omega
   clear e1 e2 e3
   go_enter Tryz.func165,Tryz.ntmps165
   go_wp2_with (go_at_call 219;refine T.mono ?_;rintro e w1 ⟨rfl,hm1,hg1⟩)
   go_ret
   exact ⟨rfl,hm1,hg1⟩
 ·have e1:putV l a n on=l:=by unfold putV mayPut;rw [decide_eq_false hi];rfl
  have e2:putE l a n=30:=by unfold putE mayPut;rw [decide_eq_false hi];rfl
  rw [e1,e2]
  clear e1 e2
  by_cases h0:a < 0
  ·go_enter Tryz.func165,Tryz.ntmps165
   go_wp2
   go_ret
   exact ⟨rfl,m,grown_refl _ _⟩
  ·have t0:decide (a < 0)=false:=by simp;omega
   by_cases h2:n < 0
   ·go_enter Tryz.func165,Tryz.ntmps165
    go_wp2
    go_ret
    exact ⟨rfl,m,grown_refl _ _⟩
   ·have t1:decide (n < 0)=false:=by simp;omega
    have t2:decide ((l.length:Int) - a < n)=true:=by simp;omega
    have h0':0≤a:=by omega
    go_enter Tryz.func165,Tryz.ntmps165
    go_wp2
    go_ret
    exact ⟨rfl,m,grown_refl _ _⟩
end Go.Proofs.YtcodpnbemdflcaaGreatDoor

/-
  Plain mathematics: truths that stand in words of 64 bits; how many are on in a word; no program, no condition.
  What the library's two functions of bits and package bits' small ones do: contracts, one a function.
  Plain mathematics: a list of truths as words of 64 bits: what a put, a search and a count of words are of the list; no program, no condition.
  Plain mathematics: the next place that is on or off, and the first run of them; no program, no condition.
-/
import Derived.Test.YtcodpnbemdflcaaGreatDoorTg1
import Derived.Laws.Bits64b
import Derived.Laws.BitsAllLaws
import Derived.Lib.TrailingZeros
import Derived.Lib.LaidTab
namespace Go.Proofs.YtcodpnbemdflcaaGreatDoor
open Go.RowKit
def cnt (f:Nat→Bool):Nat→Nat
 | 0=>0
 | n+1=>cnt f n+(f n).toNat
theorem cnt_add (f:Nat→Bool) (a:Nat) : ∀ b,cnt f (a+b)=cnt f a+cnt (fun k=>f (a+k)) b
 | 0=>rfl
 | b+1=>by
  rw [← Nat.add_assoc]
  show cnt f (a+b)+_=_+(_+_)
  rw [cnt_add f a b,Nat.add_assoc]
theorem cnt_congr {f g:Nat→Bool} : ∀ {n:Nat},(∀ k,k < n→f k=g k)→cnt f n=cnt g n
 | 0,_=>rfl
 | n+1,h=>by
  show cnt f n+_=cnt g n+_
  rw [cnt_congr fun k hk=>h k (by omega),h n (by omega)]
theorem cnt_le (f:Nat→Bool) : ∀ n,cnt f n≤n
 | 0=>Nat.le_refl _
 | n+1=>by
  have:=cnt_le f n
  show cnt f n+_≤_
  cases f n <;> simp <;> omega
def isOn (l:List Bool) (i:Nat):Bool:=l.getD i false
theorem isOn_behind {l:List Bool} {i:Nat} (h:l.length≤i):isOn l i=false:=by
 unfold isOn
 rw [List.getD_eq_getElem?_getD,List.getElem?_eq_none h]
 rfl
theorem isOn_get {l:List Bool} {i:Nat} {x:Bool} (h:l[i]? = some x):isOn l i=x:=by
 unfold isOn
 rw [List.getD_eq_getElem?_getD,h]
 rfl
theorem get_isOn {l:List Bool} {i:Nat} (h:i < l.length):l[i]? = some (isOn l i):=by
 rw [List.getElem?_eq_getElem h,isOn_get (List.getElem?_eq_getElem h)]
theorem isOn_ext {l m:List Bool} (hl:l.length=m.length) (h : ∀ i,i < l.length→isOn l i=isOn m i):l=m:=by
 apply List.ext_getElem?
 intro i
 rcases Nat.lt_or_ge i l.length with hi | hi
 ·rw [get_isOn hi,get_isOn (by omega),h i hi]
 ·rw [List.getElem?_eq_none hi,List.getElem?_eq_none (by omega)]
def ones (x:Nat):Nat:=cnt x.testBit 64
def p1 (b:Nat):Nat:=(b / 2 &&& 85)+(b &&& 85)
def p2 (d:Nat):Nat:=(d / 4 &&& 51)+(d &&& 51)
def p3 (e:Nat):Nat:=(e / 16+e) % 16
end Go.Proofs.YtcodpnbemdflcaaGreatDoor
namespace Go.Proofs.YtcodpnbemdflcaaGreatDoor
open Go.RowKit
def Tab (w:World):Prop := ∀ i,i < 64→w.cell? ⟨0,i,none⟩=some (.int .u8 (Lib.deBruijn64tab.getD i 0))
theorem tz_key (x a:Nat) (hx:x < 18446744073709551616) (hx0:x≠0) (hlow:x &&& (18446744073709551616 - x)=a) :
  IntKind.u64.wrap (bits BinOp.and IntKind.u64 (x:Int) (IntKind.u64.wrap (-(x:Int)))*285870213051353865) / 288230376151711744=((a*285870213051353865 % 18446744073709551616 / 288230376151711744:Nat):Int):=by
 have e1:IntKind.u64.wrap (-(x:Int))=((18446744073709551616 - x:Nat):Int):=by rw [IntKind.wrap_u64];omega
 rw [e1,bits_and_u64_nat x _ hx (by omega),hlow,IntKind.wrap_u64]
 omega
set_option maxHeartbeats 400000 in
theorem tz_core (x k idx:Nat) (w:World) (hx0:((x:Int) == 0)=false)
  (key:IntKind.u64.wrap (bits BinOp.and IntKind.u64 (x:Int) (IntKind.u64.wrap (-(x:Int)))*285870213051353865) / 288230376151711744=(idx:Int))
  (hi:idx < 64) (hk:k < 64) (hcell:w.cell? ⟨0,idx,none⟩=some (.int .u8 k)) :
  Calls Tryz.prog 254 #[.int .u64 (x:Int)] w fun e w'=>e = .returned (.int .i64 (k:Int))∧w=w':=by
 go_enter Tryz.func254,Tryz.ntmps254
 go_wp2_with (simp only [key])
 go_ret
 exact ⟨rfl,rfl⟩
theorem tz_any (x:Nat) (hx:x < 18446744073709551616) (h0:x≠0) (w:World) (hT:Tab w) :
  Calls Tryz.prog 254 #[.int .u64 (x:Int)] w fun e w'=>e = .returned (.int .i64 (Lib.ctz 64 x:Nat))∧w=w':=by
 obtain ⟨hlow,hk⟩:=Lib.lowest_bit 64 x h0 hx
 obtain ⟨hi,htab⟩:=Lib.deBruijn64_at _ hk
 have hcell:=hT _ hi
 rw [htab] at hcell
 exact tz_core x _ _ w (by simp;omega) (tz_key x _ hx h0 hlow) hi hk hcell
set_option maxHeartbeats 400000 in
theorem units_any (n k:Nat) (hn:n≤9000) (hk:1≤k) (hk2:k≤64) (w:World) :
  Calls Tryz.prog 218 #[.int .i64 (n:Int), .int .i64 (k:Int)] w fun e w'=>e = .returned (.int .i64 (((n+k - 1) / k:Nat):Int))∧w=w':=by
 have e:((n:Int)+(k:Int) - 1) / (k:Int)=(((n+k - 1) / k:Nat):Int):=by
  rw [show (n:Int)+(k:Int) - 1=((n+k - 1:Nat):Int) from by omega,Int.natCast_ediv]
 have E:=Lib.hid e
 clear e
 go_enter Tryz.func218,Tryz.ntmps218
 go_wp2
 go_ret
 rw [← E.out]
 exact ⟨rfl,rfl⟩
end Go.Proofs.YtcodpnbemdflcaaGreatDoor
namespace Go.Proofs.YtcodpnbemdflcaaGreatDoor
open Go.RowKit
structure Words (l:List Bool) (ws:List Nat):Prop where
 len:ws.length=(l.length+63) / 64
 lt : ∀ (j x:Nat),ws[j]? = some x→x < 18446744073709551616
 bit : ∀ (j x:Nat),ws[j]? = some x → ∀ k,k < 64→x.testBit k=isOn l (64*j+k)
theorem word_ext {x y:Nat} (hx:x < 18446744073709551616) (hy:y < 18446744073709551616) (h : ∀ k,k < 64→x.testBit k=y.testBit k):x=y:=by
 apply Nat.eq_of_testBit_eq
 intro i
 rcases Nat.lt_or_ge i 64 with hi | hi
 ·exact h i hi
 ·have e : ∀ z:Nat,z < 18446744073709551616→z.testBit i=false:=fun z hz =>
   Nat.testBit_lt_two_pow (Nat.lt_of_lt_of_le (show z < 2 ^ 64 by omega) (Nat.pow_le_pow_right (by omega) hi))
  rw [e x hx,e y hy]
theorem Words.get {l:List Bool} {ws:List Nat} (h:Words l ws) {i:Nat} (hi:i < l.length) : ∃ x,ws[i / 64]? = some x∧x < 18446744073709551616 ∧ ∀ k,k < 64→x.testBit k=isOn l (64*(i / 64)+k):=by
 have hl:=h.len
 have hj:i / 64 < ws.length:=by omega
 have hx:=List.getElem?_eq_getElem hj
 exact ⟨_,hx,h.lt _ _ hx,h.bit _ _ hx⟩
theorem words_zero (n:Nat):Words (List.replicate n false) (List.replicate ((n+63) / 64) 0):=by
 refine ⟨by simp,fun j x hx => ?_,fun j x hx k _ => ?_⟩
 ·have:=List.eq_of_mem_replicate (List.mem_of_getElem? hx)
  omega
 ·have:=List.eq_of_mem_replicate (List.mem_of_getElem? hx)
  subst this
  unfold isOn
  rw [List.getD_eq_getElem?_getD,List.getElem?_replicate,Nat.zero_testBit]
  split <;> rfl
def putL (l:List Bool) (a n:Nat) (on:Bool):List Bool:=(List.range l.length).map fun i=>if a≤i∧i < a+n then on else isOn l i
theorem putL_length (l:List Bool) (a n:Nat) (on:Bool):(putL l a n on).length=l.length:=by simp [putL]
theorem putL_isOn (l:List Bool) (a n:Nat) (on:Bool) {i:Nat} (hi:i < l.length):isOn (putL l a n on) i=if a≤i∧i < a+n then on else isOn l i:=by
 apply isOn_get
 simp [putL,hi]
theorem putL_none (l:List Bool) (a:Nat) (on:Bool):putL l a 0 on=l :=
 isOn_ext (putL_length ..) fun i hi=>by
  rw [putL_length] at hi
  rw [putL_isOn _ _ _ _ hi,if_neg (by omega)]
def turned (x m:Nat) (on:Bool):Nat:=if on then x ||| m else x &&& (18446744073709551615 - m)
theorem turned_lt {x m:Nat} (hx:x < 18446744073709551616) (hm:m < 18446744073709551616) (on:Bool):turned x m on < 18446744073709551616:=by
 unfold turned
 split
 ·exact Nat.or_lt_two_pow (n:=64) hx hm
 ·exact Nat.and_lt_two_pow (n:=64) x (by omega)
theorem turned_bit {x m:Nat} (hm:m < 18446744073709551616) (on:Bool) {k:Nat} (hk:k < 64):(turned x m on).testBit k=if m.testBit k then on else x.testBit k:=by
 unfold turned
 cases on
 ·rw [if_neg (by simp),Nat.testBit_and,show 18446744073709551615 - m=2 ^ 64 - (m+1) by omega,Nat.testBit_two_pow_sub_succ (show m < 2 ^ 64 by omega)]
  cases m.testBit k <;> simp [hk]
 ·rw [if_pos rfl,Nat.testBit_or]
  cases m.testBit k <;> simp
def fromM (r:Nat):Nat:=18446744073709551615*2 ^ r % 18446744073709551616
def uptoM (s:Nat):Nat:=18446744073709551615 / 2 ^ (63 - s)
theorem fromM_lt (r:Nat):fromM r < 18446744073709551616:=Nat.mod_lt _ (by omega)
theorem uptoM_lt (s:Nat):uptoM s < 18446744073709551616:=Nat.lt_of_le_of_lt (Nat.div_le_self _ _) (by omega)
theorem fromM_bit (r k:Nat) (hk:k < 64):(fromM r).testBit k=decide (r≤k):=by
 unfold fromM
 rw [show (18446744073709551616:Nat)=2 ^ 64 from rfl,Nat.testBit_mod_two_pow,Nat.testBit_mul_two_pow,show (18446744073709551615:Nat)=2 ^ 64 - 1 from rfl,Nat.testBit_two_pow_sub_one]
 simp [hk]
 omega
theorem uptoM_bit (s k:Nat) (hs:s < 64):(uptoM s).testBit k=decide (k≤s):=by
 unfold uptoM
 rw [Nat.testBit_div_two_pow,show (18446744073709551615:Nat)=2 ^ 64 - 1 from rfl,Nat.testBit_two_pow_sub_one]
 congr 1
 simp
 omega
theorem Words.step {l:List Bool} {ws:List Nat} (h:Words l ws) (a n:Nat) (on:Bool) (ws':List Nat) (hl:ws'.length=ws.length)
  (hw : ∀ (j x:Nat),ws[j]? = some x → ∃ m,m < 18446744073709551616∧ws'[j]? = some (turned x m on) ∧ ∀ k,k < 64→m.testBit k=decide (a≤64*j+k∧64*j+k < a+n)) (han:a+n≤l.length):Words (putL l a n on) ws':=by
 have e : ∀ (j y:Nat),ws'[j]? = some y → ∃ x m,ws[j]? = some x∧m < 18446744073709551616∧y=turned x m on ∧ ∀ k,k < 64→m.testBit k=decide (a≤64*j+k∧64*j+k < a+n):=fun j y hy=>by
  have hj:j < ws.length:=by rw [← hl];exact (List.getElem?_eq_some_iff.1 hy).1
  have hx:=List.getElem?_eq_getElem hj
  obtain ⟨m,hm,h1,h2⟩:=hw j _ hx
  rw [h1] at hy
  injection hy with hy
  exact ⟨_,m,hx,hm,hy.symm,h2⟩
 refine ⟨by rw [hl,h.len,putL_length],fun j y hy => ?_,fun j y hy k hk => ?_⟩
 ·obtain ⟨x,m,hx,hm,rfl,_⟩:=e j y hy
  exact turned_lt (h.lt _ _ hx) hm on
 ·obtain ⟨x,m,hx,hm,rfl,hb⟩:=e j y hy
  rw [turned_bit hm on hk,hb k hk,h.bit _ _ hx k hk]
  rcases Nat.lt_or_ge (64*j+k) l.length with hi | hi
  ·rw [putL_isOn _ _ _ _ hi]
   simp
  ·rw [isOn_behind (l:=putL l a n on) (by rw [putL_length];exact hi),isOn_behind hi,if_neg (by simp;omega)]
theorem turned_none (x:Nat) (hx:x < 18446744073709551616) (on:Bool):turned x 0 on=x :=
 word_ext (turned_lt hx (by omega) on) hx fun k hk=>by rw [turned_bit (by omega) on hk,Nat.zero_testBit];rfl
theorem turned_all (x:Nat) (hx:x < 18446744073709551616) (on:Bool):turned x 18446744073709551615 on=if on then 18446744073709551615 else 0:=by
 apply word_ext (turned_lt hx (by omega) on) (by split <;> omega)
 intro k hk
 have e:(18446744073709551615:Nat).testBit k=true:=by
  rw [show (18446744073709551615:Nat)=2 ^ 64 - 1 from rfl,Nat.testBit_two_pow_sub_one,decide_eq_true hk]
 rw [turned_bit (by omega) on hk,e]
 cases on
 ·simp
 ·simp [e]
theorem Words.put_one {l:List Bool} {ws:List Nat} (h:Words l ws) {f t:Nat} (on:Bool) (hft:f≤t) (ht:t < l.length) (he:f / 64=t / 64) {x:Nat} (hx:ws[f / 64]? = some x) :
  Words (putL l f (t+1 - f) on) (ws.set (f / 64) (turned x (fromM (f % 64) &&& uptoM (t % 64)) on)):=by
 refine h.step f (t+1 - f) on _ (by simp) (fun j y hy => ?_) (by omega)
 by_cases hj:f / 64=j
 ·subst hj
  rw [hx] at hy
  injection hy with hy
  subst hy
  refine ⟨fromM (f % 64) &&& uptoM (t % 64),Nat.and_lt_two_pow (n:=64) _ (uptoM_lt _),?_,fun k hk => ?_⟩
  ·rw [List.getElem?_set_self (List.getElem?_eq_some_iff.1 hx).1]
  ·rw [Nat.testBit_and,fromM_bit _ _ hk,uptoM_bit _ _ (by omega),Bool.eq_iff_iff]
   simp
   omega
 ·refine ⟨0,by omega,?_,fun k hk => ?_⟩
  ·rw [List.getElem?_set_ne hj,hy,turned_none _ (h.lt _ _ hy)]
  ·rw [Nat.zero_testBit,Bool.eq_iff_iff]
   simp
   omega
def putMany (ws:List Nat) (p q x y v:Nat):List Nat:=(List.range ws.length).map fun j=>if j=p then x else if j=q then y else if p < j∧j < q then v else ws.getD j 0
theorem Words.put_many {l:List Bool} {ws:List Nat} (h:Words l ws) {f t:Nat} (on:Bool) (ht:t < l.length) (he:f / 64 < t / 64) {x y:Nat} (hx:ws[f / 64]? = some x) (hy:ws[t / 64]? = some y) :
  Words (putL l f (t+1 - f) on) (putMany ws (f / 64) (t / 64) (turned x (fromM (f % 64)) on) (turned y (uptoM (t % 64)) on) (if on then 18446744073709551615 else 0)):=by
 refine h.step f (t+1 - f) on _ (by simp [putMany]) (fun j z hz => ?_) (by omega)
 have hj:j < ws.length:=(List.getElem?_eq_some_iff.1 hz).1
 have e:(putMany ws (f / 64) (t / 64) (turned x (fromM (f % 64)) on) (turned y (uptoM (t % 64)) on) (if on then 18446744073709551615 else 0))[j]? = some (if j=f / 64 then turned x (fromM (f % 64)) on else if j=t / 64 then turned y (uptoM (t % 64)) on else if f / 64 < j∧j < t / 64 then (if on then 18446744073709551615 else 0) else ws.getD j 0):=by
  simp [putMany,hj]
 rw [e]
 by_cases h1:j=f / 64
 ·subst h1
  rw [hx] at hz
  injection hz with hz
  subst hz
  refine ⟨fromM (f % 64),fromM_lt _,by rw [if_pos rfl],fun k hk => ?_⟩
  rw [fromM_bit _ _ hk,Bool.eq_iff_iff]
  simp
  omega
 ·rw [if_neg h1]
  by_cases h2:j=t / 64
  ·subst h2
   rw [hy] at hz
   injection hz with hz
   subst hz
   refine ⟨uptoM (t % 64),uptoM_lt _,by rw [if_pos rfl],fun k hk => ?_⟩
   rw [uptoM_bit _ _ (by omega),Bool.eq_iff_iff]
   simp
   omega
  ·rw [if_neg h2]
   by_cases h3:f / 64 < j∧j < t / 64
   ·rw [if_pos h3]
    refine ⟨18446744073709551615,by omega,by rw [turned_all _ (h.lt _ _ hz)],fun k hk => ?_⟩
    rw [show (18446744073709551615:Nat)=2 ^ 64 - 1 from rfl,Nat.testBit_two_pow_sub_one,Bool.eq_iff_iff]
    simp
    omega
   ·rw [if_neg h3]
    refine ⟨0,by omega,?_,fun k hk => ?_⟩
    ·rw [List.getD_eq_getElem?_getD,hz,turned_none _ (h.lt _ _ hz)]
     rfl
    ·rw [Nat.zero_testBit,Bool.eq_iff_iff]
     simp
     omega
def countL (l:List Bool):Nat:=cnt (isOn l) l.length
end Go.Proofs.YtcodpnbemdflcaaGreatDoor
namespace Go.Proofs.YtcodpnbemdflcaaGreatDoor
open Go.RowKit
def IsNext (l:List Bool) (a:Nat) (on:Bool) (r:Nat):Prop:=r≤l.length∧(∀ i,a≤i→i < r→isOn l i≠on)∧(r < l.length→isOn l r=on∧a≤r)
def nextL (l:List Bool) (a:Nat) (on:Bool):Nat:=((List.range l.length).find? fun i=>decide (a≤i) && (isOn l i == on)).getD l.length
theorem nextL_is (l:List Bool) (a:Nat) (on:Bool):IsNext l a on (nextL l a on):=by
 unfold nextL
 cases h:(List.range l.length).find? fun i=>decide (a≤i) && (isOn l i == on) with
 | none =>
  rw [List.find?_range_eq_none] at h
  refine ⟨Nat.le_refl _,fun i h1 h2 he => ?_,fun h1=>absurd h1 (Nat.lt_irrefl _)⟩
  have:=h i h2
  simp [h1,he] at this
 | some r =>
  rw [List.find?_range_eq_some] at h
  obtain ⟨h1,h2,h3⟩:=h
  simp at h1 h2
  refine ⟨Nat.le_of_lt h2,fun i h4 h5 he => ?_,fun _=>⟨h1.2,h1.1⟩⟩
  have:=h3 i h5
  simp [h4,he] at this
theorem IsNext.eq {l:List Bool} {a:Nat} {on:Bool} {r s:Nat} (h:IsNext l a on r) (k:IsNext l a on s):r=s:=by
 obtain ⟨h1,h2,h3⟩:=h
 obtain ⟨k1,k2,k3⟩:=k
 rcases Nat.lt_trichotomy r s with h | h | h
 ·obtain ⟨e,ha⟩:=h3 (by omega)
  exact absurd e (k2 r ha h)
 ·exact h
 ·obtain ⟨e,ha⟩:=k3 (by omega)
  exact absurd e (h2 s ha h)
theorem IsNext.val {l:List Bool} {a:Nat} {on:Bool} {r:Nat} (h:IsNext l a on r):nextL l a on=r:=(nextL_is l a on).eq h
theorem ctz_bit {y:Nat} (h0:y≠0) (hy:y < 18446744073709551616):Lib.ctz 64 y < 64∧y.testBit (Lib.ctz 64 y)=true ∧ ∀ k,k < Lib.ctz 64 y→y.testBit k=false:=by
 obtain ⟨m,hm,hk⟩:=Lib.ctzFrom_spec 64 y (by omega) hy
 have e:Lib.ctz 64 y=Lib.ctzFrom 64 y:=by simp [Lib.ctz,h0]
 rw [e]
 generalize Lib.ctzFrom 64 y=c at hm hk
 subst hm
 refine ⟨hk,?_,fun k hlt => ?_⟩
 ·rw [Nat.mul_comm,Nat.testBit_mul_two_pow]
  simp [Nat.testBit_zero]
 ·rw [Nat.mul_comm,Nat.testBit_mul_two_pow]
  simp
  omega
def seek (x:Nat) (on:Bool):Nat:=if on then x else 18446744073709551615 - x
theorem seek_lt {x:Nat} (hx:x < 18446744073709551616) (on:Bool):seek x on < 18446744073709551616:=by unfold seek;split <;> omega
theorem seek_bit {x:Nat} (hx:x < 18446744073709551616) (on:Bool) {k:Nat} (hk:k < 64):(seek x on).testBit k=(x.testBit k == on):=by
 unfold seek
 cases on
 ·rw [if_neg (by simp),show 18446744073709551615 - x=2 ^ 64 - (x+1) by omega,Nat.testBit_two_pow_sub_succ (show x < 2 ^ 64 by omega),decide_eq_true hk]
  cases x.testBit k <;> rfl
 ·rw [if_pos rfl]
  cases x.testBit k <;> rfl
theorem next_found {l:List Bool} {i x:Nat} {on:Bool} (hi:i < l.length) (hx:x < 18446744073709551616) (hb : ∀ k,k < 64→x.testBit k=isOn l (64*(i / 64)+k)) {y:Nat} (hy:seek x on / 2 ^ (i % 64)=y) (h0:y≠0) :
  y < 18446744073709551616∧IsNext l i on (i+Lib.ctz 64 y):=by
 have hlt:y < 18446744073709551616:=by rw [← hy];exact Nat.lt_of_le_of_lt (Nat.div_le_self _ _) (seek_lt hx on)
 obtain ⟨hc,h1,h2⟩:=ctz_bit h0 hlt
 have e : ∀ k,y.testBit k=(seek x on).testBit (k+i % 64):=fun k=>by rw [← hy,Nat.testBit_div_two_pow]
 have big : ∀ k,64≤k→(seek x on).testBit k=false:=fun k hk =>
  Nat.testBit_lt_two_pow (Nat.lt_of_lt_of_le (show seek x on < 2 ^ 64 from seek_lt hx on) (Nat.pow_le_pow_right (by omega) hk))
 have hc2:Lib.ctz 64 y+i % 64 < 64:=by
  rcases Nat.lt_or_ge (Lib.ctz 64 y+i % 64) 64 with h | h
  ·exact h
  ·rw [e,big _ h] at h1;cases h1
 have hon:isOn l (i+Lib.ctz 64 y)=on:=by
  rw [e,seek_bit hx on hc2,hb _ hc2,show 64*(i / 64)+(Lib.ctz 64 y+i % 64)=i+Lib.ctz 64 y by omega] at h1
  simpa using h1
 have hoff : ∀ j,i≤j→j < i+Lib.ctz 64 y→isOn l j≠on:=fun j hj hjl he=>by
  have:=h2 (j - i) (by omega)
  rw [e,seek_bit hx on (by omega),hb _ (by omega),show 64*(i / 64)+(j - i+i % 64)=j by omega,he] at this
  simp at this
 refine ⟨hlt,?_,hoff,fun _=>⟨hon,by omega⟩⟩
 rcases Nat.lt_or_ge l.length (i+Lib.ctz 64 y) with h | h
 ·exact absurd ((isOn_behind (Nat.le_refl _)).trans ((isOn_behind (Nat.le_of_lt h)).symm.trans hon)) (hoff l.length (by omega) h)
 ·exact h
theorem next_none {l:List Bool} {i x:Nat} {on:Bool} (hx:x < 18446744073709551616) (hb : ∀ k,k < 64→x.testBit k=isOn l (64*(i / 64)+k)) (h0:seek x on / 2 ^ (i % 64)=0) :
  ∀ j,i≤j→j < i+(64 - i % 64)→isOn l j≠on:=fun j hj hjl he=>by
 have:(seek x on / 2 ^ (i % 64)).testBit (j - i)=false:=by rw [h0,Nat.zero_testBit]
 rw [Nat.testBit_div_two_pow,seek_bit hx on (by omega),hb _ (by omega),show 64*(i / 64)+(j - i+i % 64)=j by omega,he] at this
 simp at this
def runAt (l:List Bool) (i n:Nat) (on:Bool):Bool:=decide (i+n≤l.length) && (List.range n).all fun k=>isOn l (i+k) == on
theorem runAt_iff {l:List Bool} {i n:Nat} {on:Bool} : runAt l i n on=true ↔ i+n≤l.length ∧ ∀ k,k < n→isOn l (i+k)=on:=by
 unfold runAt
 simp
theorem runAt_no {l:List Bool} {i n:Nat} {on:Bool} (h : ¬ (i+n≤l.length ∧ ∀ k,k < n→isOn l (i+k)=on)):runAt l i n on=false:=by
 cases e:runAt l i n on with
 | false=>rfl
 | true=>exact absurd (runAt_iff.1 e) h
def runL (l:List Bool) (a n:Int) (on:Bool):Int :=
 if n < 1 then -1 else match (List.range l.length).find? (fun i:Nat=>decide (a≤(i:Int)) && runAt l i n.toNat on) with
  | some i=>(i:Int)
  | none => -1
theorem runL_none {l:List Bool} {a n:Int} {on:Bool} (h : ∀ i:Nat,i < l.length→a≤(i:Int)→runAt l i n.toNat on=false):runL l a n on = -1:=by
 unfold runL
 split
 ·rfl
 ·rw [List.find?_range_eq_none.2 fun i hi => ?_]
  rcases Int.lt_or_le (i:Int) a with h1 | h1
  ·simp;omega
  ·simp [h i hi h1]
theorem runL_some {l:List Bool} {a n:Int} {on:Bool} {i:Nat} (hn : ¬ n < 1) (hi:i < l.length) (ha:a≤(i:Int)) (hr:runAt l i n.toNat on=true) (h : ∀ j:Nat,j < i→a≤(j:Int)→runAt l j n.toNat on=false):runL l a n on=(i:Int):=by
 unfold runL
 rw [if_neg hn,(List.find?_range_eq_some (i:=i)).2 ⟨by simp [ha,hr],by simpa using hi,fun j hj => ?_⟩]
 rcases Int.lt_or_le (j:Int) a with h1 | h1
 ·simp;omega
 ·simp [h j hj h1]
structure Seen (l:List Bool) (a:Nat) (n:Nat) (on:Bool) (p:Nat):Prop where
 le:p≤l.length
 no : ∀ j,a≤j→j < p→runAt l j n on=false
 here:p < l.length→isOn l p=on∧a≤p
theorem seen_first {l:List Bool} {a n:Nat} {on:Bool} (hn:1≤n):Seen l a n on (nextL l a on):=by
 obtain ⟨h1,h2,h3⟩:=nextL_is l a on
 exact ⟨h1,fun j ha hj=>runAt_no fun ⟨_,h⟩=>h2 j ha hj (h 0 (by omega)),h3⟩
theorem Seen.ends {l:List Bool} {a n:Nat} {on:Bool} {p:Nat} (h:Seen l a n on p) (hp:p < l.length):p < nextL l p (!on)∧nextL l p (!on)≤l.length ∧ ∀ j,p≤j→j < nextL l p (!on)→isOn l j=on:=by
 obtain ⟨h1,h2,h3⟩:=nextL_is l p (!on)
 refine ⟨?_,h1,fun j hj hk => ?_⟩
 ·rcases Nat.lt_or_ge (nextL l p (!on)) l.length with h4 | h4
  ·obtain ⟨h5,h6⟩:=h3 h4
   rcases Nat.lt_or_ge p (nextL l p (!on)) with h7 | h7
   ·exact h7
   ·have e:nextL l p (!on)=p:=by omega
    rw [e,(h.here hp).1] at h5
    cases on <;> simp at h5
  ·omega
 ·have:=h2 j hj hk
  cases on <;> simpa using this
theorem Seen.found {l:List Bool} {a n:Nat} {on:Bool} {p:Nat} (h:Seen l a n on p) (hp:p < l.length) (hn:n≤nextL l p (!on) - p):runAt l p n on=true:=by
 obtain ⟨h1,h2,h3⟩:=h.ends hp
 exact runAt_iff.2 ⟨by omega,fun k hk=>h3 _ (by omega) (by omega)⟩
theorem Seen.step {l:List Bool} {a n:Nat} {on:Bool} {p:Nat} (h:Seen l a n on p) (hp:p < l.length) (hn1:1≤n) (hn:nextL l p (!on) - p < n):Seen l a n on (nextL l (nextL l p (!on)) on)∧p < nextL l (nextL l p (!on)) on:=by
 obtain ⟨h1,h2,h3⟩:=h.ends hp
 obtain ⟨k1,k2,k3⟩:=nextL_is l p (!on)
 generalize nextL l p (!on)=e at *
 obtain ⟨m1,m2,m3⟩:=nextL_is l e on
 have he:e≤nextL l e on:=by
  rcases Nat.lt_or_ge (nextL l e on) l.length with h4 | h4
  ·exact (m3 h4).2
  ·omega
 refine ⟨⟨m1,fun j ha hj => ?_,fun h4=>⟨(m3 h4).1,by have:=(h.here hp).2;omega⟩⟩,by omega⟩
 rcases Nat.lt_or_ge j p with h5 | h5
 ·exact h.no j ha h5
 ·rcases Nat.lt_or_ge j e with h6 | h6
  ·refine runAt_no fun ⟨h7,h8⟩ => ?_
   have h9:=h8 (e - j) (by omega)
   rw [show j+(e - j)=e by omega] at h9
   have h10:=(k3 (by omega)).1
   rw [h9] at h10
   cases on <;> simp at h10
  ·exact runAt_no fun ⟨_,h7⟩=>m2 j h6 hj (h7 0 (by omega))
end Go.Proofs.YtcodpnbemdflcaaGreatDoor

/-
  Plain mathematics of check sums: the step of the word as an operation on 32 bits, that it is linear and loses nothing; no program, no condition.
  What the functions of package sum do with the word: contracts, one a function.
  What Sum, More and Seal do: contracts, one a function.
  What bytes.Equal, bytes.Clone and Open do: contracts, one a function.
  What the calls that lay numbers, ints and texts as bytes do, and what the document's own answers are: contracts, one a function.
  What the calls that read numbers, ints and texts do: contracts, one a function. A reader is a block of one cell, which holds the slice of what is left.
  The reader's exported calls: contracts, one a call.
  Plain mathematics: what is put is read, and what is read and put anew is the same bytes.
  What bytes begin with: readings that put together make readings of lists; what is laid is read, and what is read was laid so. Plain mathematics, no program.
-/
import Derived.Test.YtcodpnbemdflcaaGreatDoorTg1
import Derived.Laws.BitsAllLaws
import Derived.Laws.Bits64b
import Derived.Deep.RegionWith
import Derived.Deep.QuietTactic
import Derived.BigQuiet
namespace Go.Proofs.YtcodpnbemdflcaaGreatDoor
open Go.RowKit
def turner:BitVec 32:=3988292384#32
def stp (w:BitVec 32):BitVec 32:=(w >>> 1) ^^^ (if w.getLsbD 0 then turner else 0#32)
def stps:Nat→BitVec 32→BitVec 32
 | 0,w=>w
 | k+1,w=>stp (stps k w)
def bw (x:UInt8):BitVec 32:=BitVec.ofNat 32 x.toNat
def byt (w:BitVec 32) (x:UInt8):BitVec 32:=stps 8 (w ^^^ bw x)
def wrd (w:BitVec 32) (l:List UInt8):BitVec 32:=l.foldl byt w
def crc (s:BitVec 32) (l:List UInt8):BitVec 32 := ~~~(wrd (~~~s) l)
theorem wrd_take_succ (w:BitVec 32) (l:List UInt8) {k:Nat} {x:UInt8} (h:l[k]? = some x):wrd w (l.take (k+1))=byt (wrd w (l.take k)) x:=by
 rw [List.take_add_one,h]
 simp [wrd]
theorem bw_toNat (x:UInt8):(bw x).toNat=x.toNat:=by
 have:=x.toNat_lt
 simp only [bw,BitVec.toNat_ofNat]
 omega
theorem lsb_nat (v:BitVec 32):v.getLsbD 0=decide (v.toNat % 2=1):=by
 rw [BitVec.getLsbD,Nat.testBit_zero]
theorem stp_one {v:BitVec 32} (h:v.toNat % 2=1):(stp v).toNat=v.toNat / 2 ^^^ 3988292384:=by
 unfold stp
 rw [lsb_nat,h,BitVec.toNat_xor,BitVec.toNat_ushiftRight,Nat.shiftRight_eq_div_pow]
 rfl
theorem stp_none {v:BitVec 32} (h:v.toNat % 2=0):(stp v).toNat=v.toNat / 2:=by
 unfold stp
 rw [lsb_nat,h,BitVec.toNat_xor,BitVec.toNat_ushiftRight,Nat.shiftRight_eq_div_pow]
 simp
theorem stp_mul (v:BitVec 32):(stp v).toNat=v.toNat / 2 ^^^ 3988292384*(v.toNat % 2):=by
 rcases Nat.mod_two_eq_zero_or_one v.toNat with h | h
 ·rw [stp_none h,h];simp
 ·rw [stp_one h,h]
end Go.Proofs.YtcodpnbemdflcaaGreatDoor
namespace Go.Proofs.YtcodpnbemdflcaaGreatDoor
open Go.RowKit
theorem right_num (v:BitVec 32):bits .xor .u32 ((v.toNat:Int) / 2) (3988292384*bits .and .u32 (v.toNat:Int) 1 % 4294967296)=((stp v).toNat:Int):=by
 have h:=v.isLt
 rw [u32_and (v.toNat:Int) 1 (by omega) (by omega) (by omega) (by omega),Int.toNat_natCast,show (1:Int).toNat=1 from rfl,nat_mask1]
 rw [u32_xor _ _ (by omega) (by omega) (by omega) (by omega)]
 rw [stp_mul]
 congr 2
 rcases Nat.mod_two_eq_zero_or_one v.toNat with h2 | h2 <;> rw [h2] <;> rfl
set_option maxHeartbeats 400000 in
theorem right_any (v:BitVec 32) (i:Int) (w:World) :
  Calls Tryz.prog 262 #[.int .u32 (v.toNat:Int), .int .i64 i] w fun e w'=>e = .returned (.int .u32 ((stp v).toNat:Int))∧w=w':=by
 go_enter Tryz.func262,Tryz.ntmps262
 go_wp2
 go_ret
 exact ⟨congrArg (fun n=>Ending.returned (.int .u32 n)) (right_num v),rfl⟩
set_option maxHeartbeats 400000 in
theorem times_right (v:BitVec 32) (w:World) :
  Calls Tryz.prog 260 #[.int .i64 8, .int .u32 (v.toNat:Int), .func (.func 262) #[] #[]] w fun e w'=>e = .returned (.int .u32 ((stps 8 v).toNat:Int))∧w=w':=by
 go_enter Tryz.func260,Tryz.ntmps260
 go_wp2_with fail
 go_loop [1,9] (fun x i => ∃ k:Nat,k≤8∧i = .int .i64 k∧x = .int .u32 ((stps k v).toNat:Int)) (fun _ i=>8 - (intOf i).toNat)
 case atStart=>exact ⟨0,by omega,rfl,rfl⟩
 case round =>
  obtain ⟨k,hk,rfl,rfl⟩:=hrel
  by_cases hlt:k < 8
  ·go_wp2_with (go_at_call 262;refine (right_any _ _ w).mono ?_;rintro e w1 ⟨rfl,rfl⟩)
   refine ⟨⟨k+1,by omega,by go_num,rfl⟩,by simp [intOf];omega⟩
  ·obtain rfl:k=8:=by omega
   go_wp2
   go_ret
   exact ⟨rfl,rfl⟩
def Boxed (w:World) (g:Nat) (l:List UInt8):Prop := ∃ A n c,w.heap[g]? = some (.cells #[.slice A n c] 93 (0,0))∧Rd w A n l
set_option maxHeartbeats 400000 in
theorem byte_any (v:BitVec 32) (i:Nat) (g:Nat) (l:List UInt8) (x:UInt8) (w:World) (hb:Boxed w g l) (hx:l[i]? = some x) :
  Calls Tryz.prog 261 #[.int .u32 (v.toNat:Int), .int .i64 (i:Int), .pointer (some ⟨g,0,none⟩)] w fun e w'=>e = .returned (.int .u32 ((byt v x).toNat:Int))∧w=w':=by
 obtain ⟨A,n,c,hh,hr⟩:=hb
 have hi:i < n:=by
  have:=hr.len
  have:=(List.getElem?_eq_some_iff.1 hx).1
  omega
 obtain ⟨b,off,x2,rfl,_,hx2,hc⟩:=hr.cell hi
 obtain rfl:x2=x:=by rw [hx] at hx2;injection hx2 with h;exact h.symm
 have hg:=cell_of_one hh
 have hxor:bits .xor .u32 (v.toNat:Int) ((x2.toNat:Int) % 4294967296)=((v ^^^ bw x2).toNat:Int):=by
  have h1:=v.isLt
  have h2:=x2.toNat_lt
  rw [show (x2.toNat:Int) % 4294967296=(x2.toNat:Int) from by omega,u32_xor_nat _ _ h1 (by omega),BitVec.toNat_xor,bw_toNat]
 have Hxor:=Lib.hid hxor
 clear hh hr hx hx2 hxor
 go_enter Tryz.func261,Tryz.ntmps261
 go_wp2_with fail
 rw [Hxor.out]
 refine (times_right _ w).mono ?_
 rintro e w1 ⟨rfl,rfl⟩
 clear Hxor
 go_wp2
 go_ret
 exact ⟨rfl,rfl⟩
set_option maxHeartbeats 400000 in
theorem times_through (v:BitVec 32) (g:Nat) (l:List UInt8) (w:World) (hb:Boxed w g l) (n:Nat) (hn:l.length=n) (hm:n≤maxLen) :
  Calls Tryz.prog 260 #[.int .i64 (n:Int), .int .u32 (v.toNat:Int), .func (.func 261) #[] #[.pointer (some ⟨g,0,none⟩)]] w
   fun e w'=>e = .returned (.int .u32 ((wrd v l).toNat:Int))∧w=w':=by
 unfold maxLen at hm
 have Hn:=Lib.hid hn
 clear hn
 go_enter Tryz.func260,Tryz.ntmps260
 go_wp2_with fail
 go_loop [1,9] (fun x i => ∃ k:Nat,k≤n∧i = .int .i64 k∧x = .int .u32 ((wrd v (l.take k)).toNat:Int)) (fun _ i=>n - (intOf i).toNat)
 case atStart=>exact ⟨0,by omega,rfl,rfl⟩
 case round =>
  obtain ⟨k,hk,rfl,rfl⟩:=hrel
  by_cases hlt:k < n
  ·have hl:k < l.length:=by rw [Hn.out];exact hlt
   have hx:l[k]? = some l[k]:=List.getElem?_eq_getElem hl
   have hs:=Lib.hid (wrd_take_succ v l hx)
   have Hx:=Lib.hid hx
   clear hx
   go_wp2_with (go_at_call 261;refine (byte_any _ k g l _ w hb Hx.out).mono ?_;rintro e w1 ⟨rfl,rfl⟩)
   refine ⟨⟨k+1,by omega,by go_num,by rw [hs.out]⟩,by simp [intOf];omega⟩
  ·obtain rfl:k=n:=by omega
   have hs:l.take k=l:=List.take_of_length_le (by rw [Hn.out];omega)
   rw [hs]
   go_wp2
   go_ret
   exact ⟨rfl,rfl⟩
def GivesW (w:World) (s:BitVec 32) (e:Ending) (w':World):Prop:=e = .returned (.int .u32 (s.toNat:Int))∧Below w.heap.size w w'
theorem not_num (v:BitVec 32):bits .xor .u32 4294967295 (v.toNat:Int)=((~~~v).toNat:Int):=by
 have h1:=v.isLt
 rw [u32_xor _ _ (by omega) (by omega) (by omega) (by omega), ← BitVec.allOnes_xor,BitVec.toNat_xor,Int.toNat_natCast]
 rfl
set_option maxHeartbeats 400000 in
theorem through_any (s:BitVec 32) (A:Option Addr) (n c:Nat) (l:List UInt8) (w:World) (hb:Rd w A n l) (hn:n≤maxLen) :
  Calls Tryz.prog 255 #[.int .u32 (s.toNat:Int), .slice A n c] w (GivesW w (crc s l)):=by
 have hbox:Boxed (w.alloc (.cells #[.slice A n c] 93)) w.heap.size l:=⟨A,n,c,heap_alloc_new _ _,hb.alloc _⟩
 have Hl:=Lib.hid hb.len
 have Hn:=Lib.hid (not_num s)
 have Hn2:=Lib.hid (not_num (wrd (~~~s) l))
 have hsg:IntKind.u32.signed=false:=rfl
 have hmx:IntKind.u32.max=4294967295:=rfl
 go_enter Tryz.func255,Tryz.ntmps255
 go_wp2_with fail
 rw [Hn.out]
 refine (times_through (~~~s) w.heap.size l _ hbox n Hl.out hn).mono ?_
 rintro e w1 ⟨rfl,rfl⟩
 go_wp2
 go_ret
 exact ⟨congrArg (fun n=>Ending.returned (.int .u32 n)) Hn2.out,(Below.refl _ _).alloc (Nat.le_refl _) _⟩
end Go.Proofs.YtcodpnbemdflcaaGreatDoor
namespace Go.Proofs.YtcodpnbemdflcaaGreatDoor
open Go.RowKit
def sumOf (l:List UInt8):BitVec 32:=crc 0#32 l
def GivesSI (w:World) (s:BitVec 32) (e:Ending) (w':World):Prop:=e = .returned (.int .i64 (s.toNat:Int))∧Below w.heap.size w w'
set_option maxHeartbeats 400000 in
theorem sum_any (A:Option Addr) (n c:Nat) (l:List UInt8) (w:World) (hb:Rd w A n l) (hn:n≤maxLen) :
  Calls Tryz.prog 233 #[.slice A n c] w (GivesSI w (sumOf l)):=by
 go_enter Tryz.func233,Tryz.ntmps233
 go_wp2_with fail
 refine (through_any 0#32 A n c l w hb hn).mono ?_
 rintro e w1 ⟨rfl,bel⟩
 have hlt:=(crc 0#32 l).isLt
 have hw:wrap64 ((crc 0#32 l).toNat:Int)=((crc 0#32 l).toNat:Int):=by unfold wrap64;omega
 go_wp2
 go_ret
 exact ⟨rfl,bel⟩
def BoxI (w:World) (g:Nat) (m:Int):Prop:=w.heap[g]? = some (.cells #[.int .i64 m] 3 (0,0))
set_option maxHeartbeats 400000 in
theorem sealByte_any (v:Value) (l:List UInt8) (k s g base:Nat) (w:World) (hown:Own 5 w base v l) (hk:k < 4) (hl:l.length+1≤140737488355328) (hg:BoxI w g s) (hbase:base≤w.heap.size) :
  Calls Tryz.prog 235 #[v, .int .i64 (k:Int), .pointer (some ⟨g,0,none⟩)] w
   fun e w' => ∃ v',e = .returned v'∧Own 5 w' base v' (l ++ [UInt8.ofNat (s / 256 ^ (4 - 1 - k))])∧Below base w w':=by
 obtain ⟨v2,w2,hap,hown2,hb2⟩:=run_app_one (P:=Tryz.prog) base 93 93 5 Tryz.underlying93 Tryz.infoU8 _ _ hown (.int .u8 ((s:Int) / 2 ^ (8*(3 - k)) % 256)) (UInt8.ofNat (s / 256 ^ (4 - 1 - k)))
  (by rw [bv_ofNat,Int.natCast_ediv,Int.natCast_pow,show (2:Int) ^ (8*(3 - k))=((256:Nat):Int) ^ (4 - 1 - k) from by rw [Int.pow_mul];rfl]) hl hbase
 have hc:=cell_of_one hg
 clear hg hl
 go_enter Tryz.func235,Tryz.ntmps235
 go_wp2_with (at_builtin;refine wpList_append_run hap rfl _ _ rfl rfl rfl rfl ?_)
 go_ret
 exact ⟨v2,rfl,hown2,hb2⟩
def SealRel (l:List UInt8) (s base:Nat) (w:World) (v i:Value) (wr:World):Prop :=
 ∃ k:Nat,k≤4∧i = .int .i64 k∧Own 5 wr base v (l++(be 4 s).take k)∧Below base w wr
set_option maxHeartbeats 400000 in
theorem times_seal (v:Value) (l:List UInt8) (s g base:Nat) (w:World) (hown:Own 5 w base v l) (hl:l.length+4≤140737488355328) (hg:BoxI w g s) (hgb:g < base) (hbase:base≤w.heap.size) :
  Calls Tryz.prog 234 #[.int .i64 4,v, .func (.func 235) #[] #[.pointer (some ⟨g,0,none⟩)]] w
   fun e w' => ∃ v',e = .returned v'∧Own 5 w' base v' (l++be 4 s)∧Below base w w':=by
 go_enter Tryz.func234,Tryz.ntmps234
 go_wp2_with fail
 go_loopw [1,9] (SealRel l s base w) (fun _ i _=>4 - (intOf i).toNat)
 case atStart=>exact ⟨0,by omega,rfl,by simpa using hown,Below.refl _ _⟩
 case round =>
  clear hown
  obtain ⟨k,hk,rfl,hown,hbw⟩:=hrel
  by_cases hlt:k < 4
  ·have hsz:=Nat.le_trans hbase hbw.size
   have hl2:(l++(be 4 s).take k).length+1≤140737488355328:=by rw [List.length_append,List.length_take,be_length];omega
   have hg2:BoxI wr g s:=(hbw.block g hgb).trans hg
   have Hk:=Lib.hid (show (l++(be 4 s).take k) ++ [UInt8.ofNat (s / 256 ^ (4 - 1 - k))]=l++(be 4 s).take (k+1) from by rw [be_take_succ hlt,List.append_assoc])
   go_wp2_with (go_at_call 235;refine (sealByte_any _ _ k s g base wr hown hlt hl2 hg2 hsz).mono ?_;rintro e w1 ⟨v1,rfl,hown1,hb1⟩)
   go_roundw
   case rel=>exact ⟨k+1,by omega,by go_num,by rw [← Hk.out];exact hown1,hbw.trans hb1⟩
   case measure=>simp [intOf];omega
  ·obtain rfl:k=4:=by omega
   rw [be_take_all] at hown
   go_wp2
   go_ret
   exact ⟨_,rfl,hown,hbw⟩
set_option maxHeartbeats 400000 in
theorem seal_any (A:Option Addr) (n c:Nat) (l:List UInt8) (w:World) (hb:Rd w A n l) (hn:n≤70368744177664) :
  Calls Tryz.prog 184 #[.slice A n c] w (Gives w (l++be 4 (sumOf l).toNat)):=by
 have hmk:=run_make_bytes (P:=Tryz.prog) Tryz.underlying93 Tryz.infoU8 n (n+4) (by omega) (by omega)
 simp only [Int.natCast_add,Int.cast_ofNat_Int] at hmk
 have Hl:=Lib.hid hb.len
 go_enter Tryz.func184,Tryz.ntmps184
 go_wp2_with fail
 refine (sum_any A n c l w hb (by simp only [maxLen];omega)).mono ?_
 rintro e w1 ⟨rfl,bel⟩
 have b2:Below w.heap.size w (w1.alloc (.cells #[.int .i64 ((sumOf l).toNat:Int)] 3)):=bel.alloc bel.size _
 have hbox:BoxI (w1.alloc (.cells #[.int .i64 ((sumOf l).toNat:Int)] 3)) w1.heap.size ((sumOf l).toNat:Int):=heap_alloc_new _ _
 have hr2:Rd (w1.alloc (.cells #[.int .i64 ((sumOf l).toNat:Int)] 3)) A n l:=hb.below b2
 obtain ⟨w3,hcp,hown3,b3⟩:=run_copy_new (P:=Tryz.prog) 93 93 3 5 Tryz.underlying93 Tryz.infoU8 A n c (n+4) l hr2 (by omega) (by simp only [maxLen];omega)
 have hs2:(w1.alloc (.cells #[.int .i64 ((sumOf l).toNat:Int)] 3)).heap.size=w1.heap.size+1:=by simp
 rw [hs2] at hcp hown3 b3
 have hbox3:BoxI w3 w1.heap.size ((sumOf l).toNat:Int):=(b3.block _ (by omega)).trans hbox
 have Hb:=Lib.hid b2
 have Hx:=Lib.hid hbox
 clear hr2 hs2 b2 hbox
 go_wp2_with fail
 have hlen:l.length+4≤140737488355328:=by have:=Hl.out;omega
 have hsz3:w1.heap.size+1≤w3.heap.size:=by have:=b3.size;simpa using this
 refine (times_seal _ l (sumOf l).toNat w1.heap.size (w1.heap.size+1) w3 hown3 hlen hbox3 (by omega) hsz3).mono ?_
 rintro e w4 ⟨v4,rfl,hown4,b4⟩
 clear hmk hcp
 go_wp2
 go_ret
 have hs:=bel.size
 exact ⟨v4,rfl,hown4.mono (by omega),Hb.out.trans ((b3.mono (by omega)).trans (b4.mono (by omega)))⟩
end Go.Proofs.YtcodpnbemdflcaaGreatDoor
namespace Go.Proofs.YtcodpnbemdflcaaGreatDoor
open Go.RowKit
set_option maxHeartbeats 400000 in
theorem equal_any (A A2:Option Addr) (n c n2 c2:Nat) (l m:List UInt8) (w:World) (ha:Rd w A n l) (hb:Rd w A2 n2 m) :
  Calls Tryz.prog 237 #[.slice A n c, .slice A2 n2 c2] w fun e w'=>e = .returned (.bool (l == m))∧w=w':=by
 have k1:=ha.conv (P:=Tryz.prog) c 93 5 9 Tryz.underlying93 Tryz.underlying5 Tryz.underlying9
 have k2:=hb.conv (P:=Tryz.prog) c2 93 5 9 Tryz.underlying93 Tryz.underlying5 Tryz.underlying9
 go_enter Tryz.func237,Tryz.ntmps237
 go_wp2_with fail
 go_ret
 exact ⟨rfl,rfl⟩
set_option maxHeartbeats 400000 in
theorem bclone_any (A:Option Addr) (n c:Nat) (l:List UInt8) (w:World) (hb:Rd w A n l) (hn:n≤70368744177664) :
  Calls Tryz.prog 238 #[.slice A n c] w (Gives w l):=by
 have hq:=run_isnil (P:=Tryz.prog) w 93 5 A n c Tryz.underlying93
 cases A with
 | none =>
  obtain rfl:l = []:=by
   cases l with
   | nil=>rfl
   | cons x l =>
    obtain ⟨_,_,e,_⟩:=hb.at_ (by have:=hb.len;simp at this;omega)
    cases e
  go_enter Tryz.func238,Tryz.ntmps238
  go_wp2_with fail
  go_ret
  exact ⟨_,rfl,Own.nil,Below.refl _ _⟩
 | some a =>
  have ho:Own 5 (w.alloc (.cells #[] 5)) w.heap.size (.slice (some ⟨w.heap.size,0,none⟩) 0 0) []:=Own.lit #[] (Nat.le_refl _) rfl (by simp [maxLen])
  have hb0:Below w.heap.size w (w.alloc (.cells #[] 5)):=(Below.refl _ _).alloc (Nat.le_refl _) _
  obtain ⟨v2,w2,hap,hown2,hg,_⟩:=run_app (P:=Tryz.prog) w.heap.size 93 93 5 Tryz.underlying93 Tryz.infoU8 _ _ ho (some a) n c l (hb.alloc _) (by simp;omega) (by simp)
  have hb2:=below_app hb0 ho hg (by simp)
  rw [List.nil_append] at hown2
  clear hb0 ho hg
  go_enter Tryz.func238,Tryz.ntmps238
  go_wp2_with (at_builtin;refine wpList_append_run hap rfl _ _ rfl rfl rfl rfl ?_)
  go_ret
  exact ⟨v2,rfl,hown2,hb2⟩
def sealOf (l:List UInt8):List UInt8:=l++be 4 (sumOf l).toNat
set_option maxHeartbeats 1000000 in
theorem open_any (A:Option Addr) (n c:Nat) (l:List UInt8) (w:World) (hb:Rd w A n l) (h:4≤n) (hc:n≤c) (_hm:c≤maxLen) (hn:n≤70368744177664) :
  Calls Tryz.prog 194 #[.slice A n c] w
   fun e w'=>(sealOf (l.take (n - 4))=l∧GivesE w (l.take (n - 4)) 0 e w')∨(sealOf (l.take (n - 4))≠l∧Refused w 20 e w'):=by
 unfold maxLen at _hm
 have hr:Rd w A (n - 4) (l.take (n - 4)):=hb.take (by omega)
 obtain ⟨k,rfl⟩ : ∃ k,n=k+4:=⟨n - 4,by omega⟩
 have he:k+4 - 4=k:=by omega
 rw [he] at hr ⊢
 obtain ⟨r,hrd⟩ : ∃ r,r=l.take k:=⟨_,rfl⟩
 rw [← hrd] at hr ⊢
 have Hl:=Lib.hid hr.len
 clear hrd he h
 go_enter Tryz.func194,Tryz.ntmps194
 go_wp2_with fail
 refine (seal_any A k c r w hr (by omega)).mono ?_
 rintro e w1 ⟨v1,rfl,hown1,b1⟩
 have hsl:(r++be 4 (sumOf r).toNat).length=k+4:=by rw [List.length_append,be_length,Hl.out]
 obtain ⟨A1,c1,rfl,_,_,r1⟩:=hown1.shapeN hsl
 clear hown1 hsl
 go_wp2_with fail
 refine (equal_any A1 A (k+4) c1 (k+4) c _ l w1 r1 (hb.below b1)).mono ?_
 rintro e w2 ⟨rfl,rfl⟩
 by_cases hq:r++be 4 (sumOf r).toNat=l
 ·have hd:(r++be 4 (sumOf r).toNat == l)=true:=beq_iff_eq.2 hq
  have Hq:=Lib.hid hq
  clear hq r1
  go_wp2_with fail
  refine (bclone_any A k c r w1 (hr.below b1) (by omega)).mono ?_
  rintro e w3 ⟨v3,rfl,hown3,b3⟩
  go_wp2
  go_ret2
  exact .inl ⟨Hq.out,v3,rfl,hown3.mono b1.size,b1.trans (b3.mono b1.size)⟩
 ·have hd:(r++be 4 (sumOf r).toNat == l)=false:=beq_eq_false_iff_ne.2 hq
  have Hq:=Lib.hid hq
  clear hq r1
  go_wp2
  go_ret2
  exact .inr ⟨Hq.out,rfl,b1⟩
theorem open_yes (A:Option Addr) (n c:Nat) (l:List UInt8) (w:World) (hb:Rd w A n l) (h:4≤n) (hc:n≤c) (hm:c≤maxLen) (hn:n≤70368744177664) (hs:sealOf (l.take (n - 4))=l) :
  Calls Tryz.prog 194 #[.slice A n c] w (GivesE w (l.take (n - 4)) 0) :=
 (open_any A n c l w hb h hc hm hn).mono fun e w' hd=>by
  rcases hd with ⟨_,h⟩ | ⟨h,_⟩
  ·exact h
  ·exact absurd hs h
end Go.Proofs.YtcodpnbemdflcaaGreatDoor
namespace Go.Proofs.YtcodpnbemdflcaaGreatDoor
open Go.RowKit
def RefusedS (w:World) (er:Int) (e:Ending) (w':World):Prop:=e = .returned (.tuple #[.slice none 0 0, .int .i64 er])∧w=w'
def PutRel (b:List UInt8) (s u:Nat) (w:World) (v i:Value) (wr:World):Prop :=
 ∃ k:Nat,k≤s∧i = .int .i64 k∧Own 5 wr w.heap.size v (b++(be s u).take k)∧Below w.heap.size w wr
set_option maxHeartbeats 400000 in
theorem putBits_any (A:Option Addr) (n c:Nat) (b:List UInt8) (u:Nat) (s:Nat) (w:World) (hb:Rd w A n b) (hn:n≤70368744177664) (hs:s≤8) :
  Calls Tryz.prog 232 #[.slice A n c, .int .u64 u, .int .i64 s] w (Gives w (b++be s u)):=by
 have hmk:=run_make_bytes (P:=Tryz.prog) Tryz.underlying93 Tryz.infoU8 n (n+s) (by omega) (by omega)
 rw [Int.natCast_add] at hmk
 obtain ⟨w1,hcp,hown1,hb1⟩:=run_copy_new (P:=Tryz.prog) 93 93 3 5 Tryz.underlying93 Tryz.infoU8 A n c (n+s) b hb (by omega) (by simp only [maxLen];omega)
 have hl:=hb.len
 go_enter Tryz.func232,Tryz.ntmps232
 go_wp2_with fail
 clear hmk hcp
 go_loopw [7,20] (PutRel b s u w) (fun _ i _=>s - (intOf i).toNat)
 case atStart=>exact ⟨0,Nat.zero_le _,rfl,by simpa using hown1,hb1⟩
 case round =>
  obtain ⟨k,hk,rfl,hown,hbw⟩:=hrel
  by_cases hlt:k < s
  ·have hsz:=hbw.size
   have hl2:(b++(be s u).take k).length≤n+s:=by rw [List.length_append,hl,List.length_take,be_length];omega
   obtain ⟨v2,w2,hap,hown2,hb2⟩:=run_app_one (P:=Tryz.prog) w.heap.size 93 93 5 Tryz.underlying93 Tryz.infoU8 _ _ hown (.int .u8 ((u:Int) / 2 ^ (8*(s - 1 - k)) % 256)) (UInt8.ofNat (u / 256 ^ (s - 1 - k)))
    (by rw [bv_ofNat,Int.natCast_ediv,Int.natCast_pow,show (2:Int) ^ (8*(s - 1 - k))=((256:Nat):Int) ^ (s - 1 - k) from by rw [Int.pow_mul];rfl]) (by omega) hsz
   have hk2:(b++(be s u).take k) ++ [UInt8.ofNat (u / 256 ^ (s - 1 - k))]=b++(be s u).take (k+1):=by rw [be_take_succ hlt,List.append_assoc]
   rw [hk2] at hown2
   clear hk2 hl2 hl hown1 hb1
   go_wp2_with (at_builtin;refine wpList_append_run hap rfl _ _ rfl rfl rfl rfl ?_)
   go_roundw
   case rel=>exact ⟨k+1,by omega,by go_num,hown2,hbw.trans hb2⟩
   case measure=>simp [intOf];omega
  ·obtain rfl:k=s:=by omega
   rw [be_take_all] at hown
   clear hlt hown1 hb1
   go_wp2
   go_ret
   exact ⟨_,rfl,hown,hbw⟩
set_option maxHeartbeats 400000 in
theorem putNumber_yes (A:Option Addr) (n c:Nat) (b:List UInt8) (m:Int) (w:World) (hb:Rd w A n b) (hn:n≤70368744177664) (h0:0≤m) (h1:m≤2147483647) :
  Calls Tryz.prog 201 #[.slice A n c, .int .i64 m] w (GivesE w (b++be 4 m.toNat) 0):=by
 obtain ⟨u,rfl⟩:=Int.eq_ofNat_of_zero_le h0
 have h2:decide (2147483647 < (u:Int))=false:=by simp;omega
 have h3:decide ((u:Int) < 0)=false:=by simp
 go_enter Tryz.func201,Tryz.ntmps201
 go_wp2_with fail
 refine (putBits_any A n c b u 4 w hb hn (by omega)).mono ?_
 rintro e w1 ⟨v,rfl,hown,hbw⟩
 go_wp2
 go_ret2
 exact ⟨v,rfl,hown,hbw⟩
set_option maxHeartbeats 400000 in
theorem putInt_any (A:Option Addr) (n c:Nat) (b:List UInt8) (m:Int) (w:World) (hb:Rd w A n b) (hn:n≤70368744177664) :
  Calls Tryz.prog 185 #[.slice A n c, .int .i64 m] w (Gives w (b++be 8 (u64n m))):=by
 go_enter Tryz.func185,Tryz.ntmps185
 go_wp2_with fail
 rw [wrap_u64n]
 refine (putBits_any A n c b (u64n m) 8 w hb hn (by omega)).mono ?_
 rintro e w1 ⟨v,rfl,hown,hbw⟩
 go_wp2
 go_ret
 exact ⟨v,rfl,hown,hbw⟩
set_option maxHeartbeats 400000 in
theorem putText_yes (A:Option Addr) (n c:Nat) (b:List UInt8) (s:ByteArray) (w:World) (hb:Rd w A n b) (hn:n≤70368744177664) (h:s.size≤65536) :
  Calls Tryz.prog 183 #[.slice A n c, .string s] w (GivesE w (b++be 4 s.size++s.data.toList) 0):=by
 go_enter Tryz.func183,Tryz.ntmps183
 go_wp2_with fail
 refine (putBits_any A n c b s.size 4 w hb hn (by omega)).mono ?_
 rintro e w1 ⟨v,rfl,hown,hbw⟩
 obtain ⟨v2,w2,hap,hown2,hg⟩:=run_app_string (P:=Tryz.prog) w.heap.size 93 9 93 5 Tryz.underlying93 Tryz.underlying9 Tryz.infoU8 v _ hown s (by simp only [List.length_append,be_length,hb.len];omega) hbw.size
 go_wp2_with (at_builtin;refine wpList_append_run hap rfl _ _ rfl rfl rfl rfl ?_)
 go_ret2
 exact ⟨v2,rfl,hown2,below_app hbw hown hg hbw.size⟩
end Go.Proofs.YtcodpnbemdflcaaGreatDoor
namespace Go.Proofs.YtcodpnbemdflcaaGreatDoor
open Go.RowKit
def ofbe (l:List UInt8):Nat:=l.foldl (fun n x=>n*256+x.toNat) 0
theorem ofbe_snoc (l:List UInt8) (x:UInt8):ofbe (l ++ [x])=ofbe l*256+x.toNat:=by simp [ofbe]
theorem ofbe_lt (l:List UInt8):ofbe l < 256 ^ l.length:=by
 suffices h : ∀ (l:List UInt8) (a:Nat),l.foldl (fun n x=>n*256+x.toNat) a < (a+1)*256 ^ l.length by simpa [ofbe] using h l 0
 intro l
 induction l with
 | nil=>intro a;simp
 | cons x l ih =>
  intro a
  have hx:=x.toNat_lt
  have h1:=ih (a*256+x.toNat)
  have h2:(a*256+x.toNat+1)*256 ^ l.length≤((a+1)*256)*256 ^ l.length:=Nat.mul_le_mul_right _ (by omega)
  simp only [List.foldl_cons,List.length_cons,Nat.pow_succ]
  calc _ < _:=h1
   _≤_:=h2
   _=_:=by rw [Nat.mul_assoc,Nat.mul_comm 256]
theorem ofbe_step (U x:Nat) (hU:U < 72057594037927936) (hx:x < 256):bits .or .u64 ((U:Int)*256) (x:Int)=((U*256+x:Nat):Int):=by
 have h1:(U:Int)*256=((U*256:Nat):Int):=by omega
 rw [h1,bits_or_u64_nat _ _ (by omega) (by omega)]
 congr 1
 have:=Nat.two_pow_add_eq_or_of_lt (i:=8) (b:=x) (by omega) U
 rw [Nat.mul_comm U 256]
 exact this.symm
set_option maxHeartbeats 400000 in
theorem joinBits_any (A:Option Addr) (n c:Nat) (l:List UInt8) (w:World) (hl:Rd w A n l) (hn:n≤8) :
  Calls Tryz.prog 257 #[.slice A n c] w fun e w'=>e = .returned (.int .u64 (ofbe l))∧w=w':=by
 have Hl:=Lib.hid hl.len
 go_enter Tryz.func257,Tryz.ntmps257
 go_wp2_with fail
 go_loop [3,8] (fun v i => ∃ k:Nat,k≤n∧i = .int .i64 k∧v = .int .u64 (ofbe (l.take k))) (fun _ i=>n - (intOf i).toNat)
 case atStart=>exact ⟨0,Nat.zero_le _,rfl,rfl⟩
 case round =>
  obtain ⟨k,hk,rfl,rfl⟩:=hrel
  by_cases hlt:k < n
  ·obtain ⟨b,off,x,rfl,_,hx,hc⟩:=hl.cell hlt
   have hU:ofbe (l.take k) < 72057594037927936:=by
    have h1:=ofbe_lt (l.take k)
    have h2:256 ^ (l.take k).length≤256 ^ 7:=Nat.pow_le_pow_right (by omega) (by rw [List.length_take];omega)
    omega
   have hst:=ofbe_step (ofbe (l.take k)) x.toNat hU x.toNat_lt
   have hsn:ofbe (l.take (k+1))=ofbe (l.take k)*256+x.toNat:=by
    rw [List.take_add_one,hx]
    exact ofbe_snoc _ _
   rw [← hsn] at hst
   clear hx
   have hx256:x.toNat < 256:=x.toNat_lt
   go_wp2
   refine ⟨⟨k+1,by omega,by go_num,?_⟩,by simp [intOf];omega⟩
   rw [hsn]
   congr 1
  ·obtain rfl:k=n:=by omega
   rw [List.take_of_length_le (by rw [Hl.out];omega)]
   go_wp2
   go_ret
   exact ⟨rfl,rfl⟩
def Rdr (w:World) (g:Nat) (l:List UInt8):Prop :=
 ∃ A n c,w.heap[g]? = some (.cells #[.slice A n c] 313 (0,0))∧Rd w A n l∧n≤c∧c≤maxLen
theorem block_cell {w:World} {g:Nat} {v:Value} {t:TypeId} (h:w.heap[g]? = some (.cells #[v] t (0,0))):w.cell? ⟨g,0,none⟩=some v:=by
 rw [cell_of_row w g 0 _ t (0,0) h];rfl
theorem block_free {w:World} {g:Nat} {v:Value} {t:TypeId} (h:w.heap[g]? = some (.cells #[v] t (0,0))):w.frozen? ⟨g,0,none⟩=false:=by
 simp [World.frozen?,h]
theorem block_set {w:World} {g:Nat} {v:Value} {t:TypeId} (h:w.heap[g]? = some (.cells #[v] t (0,0))) (u:Value):(w.setCell ⟨g,0,none⟩ u).heap[g]? = some (.cells #[u] t (0,0)):=by
 simp [World.setCell,Array.getElem?_modify,h]
theorem Rd.beside {w w':World} {A:Option Addr} {n:Nat} {l:List UInt8} {g:Nat} {B:Option Addr} {m c:Nat} {t:TypeId} (h:Rd w A n l) (hb:w.heap[g]? = some (.cells #[.slice B m c] t (0,0))) (hg:w.grownBy w' (some g)):Rd w' A n l :=
 ⟨h.len,fun hn=>by
  obtain ⟨b,off,e,hlt,hc⟩:=h.at_ hn
  have hne:b≠g:=by
   rintro rfl
   have hl:0 < l.length:=by have:=h.len;omega
   have h0:=hc 0 l[0] (List.getElem?_eq_getElem hl)
   rw [cell_of_row w b _ _ t (0,0) hb] at h0
   rcases Nat.eq_zero_or_pos (off+0) with h1 | h1
   ·rw [h1] at h0;cases h0
   ·rw [Array.getElem?_eq_none (by simp;omega)] at h0;cases h0
  refine ⟨b,off,e,Nat.lt_of_lt_of_le hlt hg.size,fun j x hx => ?_⟩
  rw [World.cell?_of_block (w:=w) (hg.block b hlt (fun e=>hne (by injection e)))]
  exact hc j x hx⟩
def TakePostC (w:World) (g:Nat) (k:Nat) (l:List UInt8) (e:Ending) (w':World):Prop :=
 ∃ A c,e = .returned (.tuple #[.slice A k c, .int .i64 0])∧k≤c∧c≤maxLen∧Rd w' A k (l.take k)∧Rdr w' g (l.drop k)∧w.grownBy w' (some g)
set_option maxHeartbeats 400000 in
theorem take_no (g:Nat) (l:List UInt8) (k:Int) (w:World) (hr:Rdr w g l) (hk:(l.length:Int) < k) :
  Calls Tryz.prog 256 #[.pointer (some ⟨g,0,none⟩), .int .i64 k] w (RefusedS w 10):=by
 obtain ⟨A,n,c,hblk,hrd,hnc,hcm⟩:=hr
 have hcell:=block_cell hblk
 have hfr:=block_free hblk
 have hlen:=hrd.len
 rw [hlen] at hk
 clear hlen hrd hblk
 unfold maxLen at hcm
 go_enter Tryz.func256,Tryz.ntmps256
 go_wp2
 go_ret2
 exact ⟨rfl,rfl⟩
theorem grown_set0 {w:World} {g:Nat} (v:Value):w.grownBy (w.setCell ⟨g,0,none⟩ v) (some g) :=
 ⟨rfl,rfl,rfl,by simp [World.setCell],fun k _ hne=>Below.heap_setCell w _ v k (fun e=>hne (by rw [e]))⟩
theorem take_post {w:World} {g:Nat} {l:List UInt8} {A:Option Addr} {n c k:Nat} (hblk:w.heap[g]? = some (.cells #[.slice A n c] 313 (0,0))) (hrd:Rd w A n l) (hnc:n≤c) (hcm:c≤maxLen) (hk:k≤n) :
  TakePostC w g k l (.returned (.tuple #[.slice A k c, .int .i64 0])) (w.setCell ⟨g,0,none⟩ (.slice (if c=k then A else A.map (·.add k)) (n - k) (c - k))) :=
 ⟨A,c,rfl,by omega,hcm,(hrd.take hk).beside hblk (grown_set0 _),⟨_,_,_,block_set hblk _,(hrd.cut hk hnc).beside hblk (grown_set0 _),by omega,by omega⟩,grown_set0 _⟩
set_option maxHeartbeats 400000 in
theorem take_yes (g:Nat) (l:List UInt8) (k:Nat) (w:World) (hr:Rdr w g l) (hk:k≤l.length) :
  Calls Tryz.prog 256 #[.pointer (some ⟨g,0,none⟩), .int .i64 k] w (TakePostC w g k l):=by
 obtain ⟨A,n,c,hblk,hrd,hnc,hcm⟩:=hr
 have hcell:=block_cell hblk
 have hfr:=block_free hblk
 have hlen:=hrd.len
 rw [hlen] at hk
 clear hlen
 have hp:=take_post hblk hrd hnc hcm hk
 clear hblk
 unfold maxLen at hcm
 have Hp:=Lib.hid hp
 clear hp
 by_cases hck:c=k
 ·subst hck
  obtain rfl:n=c:=by omega
  rw [if_pos rfl,Nat.sub_self] at Hp
  go_enter Tryz.func256,Tryz.ntmps256
  go_wp2
  go_ret2
  exact Hp.out
 ·rw [if_neg hck] at Hp
  go_enter Tryz.func256,Tryz.ntmps256
  go_wp2
  go_ret2
  exact Hp.out
def ReadPost (w:World) (g:Nat) (k:Nat) (l:List UInt8) (v:Value) (e:Ending) (w':World):Prop :=
 e = .returned (.tuple #[v, .int .i64 0])∧Rdr w' g (l.drop k)∧w.grownBy w' (some g)
set_option maxHeartbeats 400000 in
theorem restInt_no (g:Nat) (l:List UInt8) (w:World) (hr:Rdr w g l) (hk:l.length < 8) :
  Calls Tryz.prog 258 #[.pointer (some ⟨g,0,none⟩)] w fun e w'=>e = .returned (.tuple #[.int .i64 0, .int .i64 10])∧w=w':=by
 go_enter Tryz.func258,Tryz.ntmps258
 go_wp2_with fail
 refine (take_no g l 8 w hr (by omega)).mono ?_
 rintro e w' ⟨rfl,rfl⟩
 go_wp2
 go_ret2
 exact ⟨rfl,rfl⟩
set_option maxHeartbeats 400000 in
theorem restInt_yes (g:Nat) (l:List UInt8) (w:World) (hr:Rdr w g l) (hk:8≤l.length) :
  Calls Tryz.prog 258 #[.pointer (some ⟨g,0,none⟩)] w (ReadPost w g 8 l (.int .i64 (wrap64 (ofbe (l.take 8))))):=by
 go_enter Tryz.func258,Tryz.ntmps258
 go_wp2_with fail
 refine (take_yes g l 8 w hr hk).mono ?_
 rintro e w' ⟨A,c,rfl,hc,hm,hrd,hr',hg⟩
 go_wp2_with fail
 refine (joinBits_any A 8 c (l.take 8) w' hrd (by omega)).mono ?_
 rintro e w2 ⟨rfl,rfl⟩
 go_wp2
 go_ret2
 exact ⟨rfl,hr',hg⟩
set_option maxHeartbeats 400000 in
theorem restNumber_no (g:Nat) (l:List UInt8) (w:World) (hr:Rdr w g l) (hk:l.length < 4) :
  Calls Tryz.prog 240 #[.pointer (some ⟨g,0,none⟩)] w fun e w'=>e = .returned (.tuple #[.int .i64 0, .int .i64 10])∧w=w':=by
 go_enter Tryz.func240,Tryz.ntmps240
 go_wp2_with fail
 refine (take_no g l 4 w hr (by omega)).mono ?_
 rintro e w' ⟨rfl,rfl⟩
 go_wp2
 go_ret2
 exact ⟨rfl,rfl⟩
theorem restNumber_form (g:Nat) (l:List UInt8) (x:UInt8) (w:World) (hr:Rdr w g l) (hk:4≤l.length) (hx:l[0]? = some x) (h:127 < x.toNat) :
  Calls Tryz.prog 240 #[.pointer (some ⟨g,0,none⟩)] w (fun e w'=>e = .returned (.tuple #[.int .i64 0, .int .i64 11])∧Rdr w' g (l.drop 4)∧w.grownBy w' (some g)):=by
 go_enter Tryz.func240,Tryz.ntmps240
 go_wp2_with fail
 refine (take_yes g l 4 w hr hk).mono ?_
 rintro e w' ⟨A,c,rfl,hc,hm,hrd,hr',hg⟩
 obtain ⟨b,off,y,rfl,_,hy,hcell⟩:=hrd.cell (j:=0) (by omega)
 obtain rfl:y=x:=by
  rw [List.getElem?_take,if_pos (by omega),hx] at hy
  injection hy with hy
  exact hy.symm
 rw [Nat.add_zero] at hcell
 clear hx hy
 go_wp2
 go_ret2
 exact ⟨rfl,hr',hg⟩
theorem restNumber_yes (g:Nat) (l:List UInt8) (x:UInt8) (w:World) (hr:Rdr w g l) (hk:4≤l.length) (hx:l[0]? = some x) (h:x.toNat≤127) :
  Calls Tryz.prog 240 #[.pointer (some ⟨g,0,none⟩)] w (ReadPost w g 4 l (.int .i64 (ofbe (l.take 4)))):=by
 go_enter Tryz.func240,Tryz.ntmps240
 go_wp2_with fail
 refine (take_yes g l 4 w hr hk).mono ?_
 rintro e w' ⟨A,c,rfl,hc,hm,hrd,hr',hg⟩
 obtain ⟨b,off,y,rfl,_,hy,hcell⟩:=hrd.cell (j:=0) (by omega)
 obtain rfl:y=x:=by
  rw [List.getElem?_take,if_pos (by omega),hx] at hy
  injection hy with hy
  exact hy.symm
 rw [Nat.add_zero] at hcell
 clear hx hy
 have hlt:ofbe (l.take 4) < 4294967296:=by
  have h1:=ofbe_lt (l.take 4)
  have h2:256 ^ (l.take 4).length≤256 ^ 4:=Nat.pow_le_pow_right (by omega) (by rw [List.length_take];omega)
  omega
 go_wp2_with fail
 refine (joinBits_any _ 4 c (l.take 4) w' hrd (by omega)).mono ?_
 rintro e w2 ⟨rfl,rfl⟩
 go_wp2
 go_ret2
 exact ⟨rfl,hr',hg⟩
def rnum (l:List UInt8):Int × Nat × Int:=if l.length < 4 then (0,0,10) else if 127 < (l.getD 0 0).toNat then (0,0,11) else (ofbe (l.take 4),4,0)
def rint (l:List UInt8):Int × Nat × Int:=if l.length < 8 then (0,0,10) else (wrap64 (ofbe (l.take 8)),8,0)
def rtext (l:List UInt8):List UInt8 × Nat × Int :=
 if (rnum l).2.2≠0 then ([],0,(rnum l).2.2) else if 65536 < (rnum l).1 then ([],0,11) else if ((l.length:Int) - 4) < (rnum l).1 then ([],0,10) else
  ((l.drop 4).take (rnum l).1.toNat,4+(rnum l).1.toNat,0)
def Moved (w:World) (g:Nat) (v:Value) (er:Int) (e:Ending) (w':World):Prop :=
 e = .returned (.tuple #[v, .int .i64 er])∧(∃ l',Rdr w' g l')∧w.grownBy w' (some g)
set_option maxHeartbeats 400000 in
theorem restText_end (g:Nat) (l:List UInt8) (er:Int) (w:World) (hr:Rdr w g l) (h:(rnum l).2.2=er) (he:er≠0) :
  Calls Tryz.prog 242 #[.pointer (some ⟨g,0,none⟩)] w (Moved w g (.string ⟨#[]⟩) er):=by
 unfold rnum at h
 split at h
 ·rename_i h4
  subst h
  go_enter Tryz.func242,Tryz.ntmps242
  go_wp2_with fail
  refine (restNumber_no g l w hr h4).mono ?_
  rintro e w' ⟨rfl,rfl⟩
  go_wp2
  go_ret2
  exact ⟨rfl,⟨l,hr⟩,grown_refl _ _⟩
 ·rename_i h4
  split at h
  ·rename_i h5
   subst h
   have hl:0 < l.length:=by omega
   have hx:l[0]? = some (l.getD 0 0):=by simp [List.getD,List.getElem?_eq_getElem hl]
   go_enter Tryz.func242,Tryz.ntmps242
   go_wp2_with fail
   refine (restNumber_form g l _ w hr (by omega) hx h5).mono ?_
   rintro e w' ⟨rfl,hr',hg⟩
   clear hx
   go_wp2
   go_ret2
   exact ⟨rfl,⟨_,hr'⟩,hg⟩
  ·exact absurd h.symm he
theorem rnum_ok (l:List UInt8) (h:(rnum l).2.2=0) : ∃ u:Nat,rnum l=((u:Int),4,0)∧u < 4294967296∧u=ofbe (l.take 4)∧4≤l.length ∧
  ∀ (g:Nat) (w:World),Rdr w g l→Calls Tryz.prog 240 #[.pointer (some ⟨g,0,none⟩)] w (ReadPost w g 4 l (.int .i64 (u:Int))):=by
 have h4 : ¬ l.length < 4:=by intro h4;rw [rnum,if_pos h4] at h;cases h
 have h5 : ¬ 127 < (l.getD 0 0).toNat:=by intro h5;rw [rnum,if_neg h4,if_pos h5] at h;cases h
 have h6:rnum l=((ofbe (l.take 4):Int),4,0):=by rw [rnum,if_neg h4,if_neg h5]
 have hlt:ofbe (l.take 4) < 4294967296:=by
  have h1:=ofbe_lt (l.take 4)
  have h2:256 ^ (l.take 4).length≤256 ^ 4:=Nat.pow_le_pow_right (by omega) (by rw [List.length_take];omega)
  omega
 have hx:l[0]? = some (l.getD 0 0):=by simp [List.getD,List.getElem?_eq_getElem (show 0 < l.length by omega)]
 exact ⟨_,h6,hlt,rfl,by omega,fun g w hr=>restNumber_yes g l _ w hr (by omega) hx (by omega)⟩
set_option maxHeartbeats 400000 in
theorem restText_big (g:Nat) (l:List UInt8) (u:Nat) (w:World) (hlt:u < 4294967296) (Hc:Hid (Calls Tryz.prog 240 #[.pointer (some ⟨g,0,none⟩)] w (ReadPost w g 4 l (.int .i64 (u:Int))))) (h7:65536 < u) :
  Calls Tryz.prog 242 #[.pointer (some ⟨g,0,none⟩)] w (Moved w g (.string ⟨#[]⟩) 11):=by
 go_enter Tryz.func242,Tryz.ntmps242
 go_wp2_with fail
 refine Calls.mono Hc.out ?_
 rintro e w' ⟨rfl,hr',hg⟩
 go_wp2
 go_ret2
 exact ⟨rfl,⟨_,hr'⟩,hg⟩
set_option maxHeartbeats 400000 in
theorem restText_short (g:Nat) (l:List UInt8) (u:Nat) (w:World) (hlt:u < 4294967296) (Hc:Hid (Calls Tryz.prog 240 #[.pointer (some ⟨g,0,none⟩)] w (ReadPost w g 4 l (.int .i64 (u:Int))))) (h7:u≤65536) (h4:4≤l.length) (h8:l.length < 4+u) :
  Calls Tryz.prog 242 #[.pointer (some ⟨g,0,none⟩)] w (Moved w g (.string ⟨#[]⟩) 10):=by
 have hk:((l.drop 4).length:Int) < (u:Int):=by rw [List.length_drop];omega
 go_enter Tryz.func242,Tryz.ntmps242
 go_wp2_with fail
 refine Calls.mono Hc.out ?_
 rintro e w' ⟨rfl,hr',hg⟩
 go_wp2_with fail
 refine (take_no g _ (u:Int) w' hr' hk).mono ?_
 rintro e w2 ⟨rfl,rfl⟩
 clear hk
 go_wp2
 go_ret2
 exact ⟨rfl,⟨_,hr'⟩,hg⟩
set_option maxHeartbeats 400000 in
theorem restText_ok (g:Nat) (l:List UInt8) (u:Nat) (w:World) (hlt:u < 4294967296) (Hc:Hid (Calls Tryz.prog 240 #[.pointer (some ⟨g,0,none⟩)] w (ReadPost w g 4 l (.int .i64 (u:Int))))) (h7:u≤65536) (h8:4+u≤l.length) :
  Calls Tryz.prog 242 #[.pointer (some ⟨g,0,none⟩)] w (ReadPost w g (4+u) l (.string ⟨((l.drop 4).take u).toArray⟩)):=by
 have hk:u≤(l.drop 4).length:=by rw [List.length_drop];omega
 have Hk:=Lib.hid hk
 clear hk
 generalize hd:l.drop 4=m at *
 have Hd:=Lib.hid hd
 clear hd
 go_enter Tryz.func242,Tryz.ntmps242
 go_wp2_with fail
 refine Calls.mono Hc.out ?_
 rintro e w' ⟨rfl,hr',hg⟩
 rw [Hd.out] at hr'
 go_wp2_with fail
 refine (take_yes g m u w' hr' Hk.out).mono ?_
 rintro e w2 ⟨A,c,rfl,hc,hm,hrd,hr2,hg2⟩
 have k1:=hrd.conv (P:=Tryz.prog) c 93 5 9 Tryz.underlying93 Tryz.underlying5 Tryz.underlying9
 go_wp2
 go_ret2
 refine ⟨rfl,?_,hg.trans hg2⟩
 rw [← Hd.out,List.drop_drop] at hr2
 exact hr2
end Go.Proofs.YtcodpnbemdflcaaGreatDoor
namespace Go.Proofs.YtcodpnbemdflcaaGreatDoor
open Go.RowKit
def Stays (w:World) (g:Nat) (l:List UInt8) (v:Value) (er:Int) (e:Ending) (w':World):Prop :=
 e = .returned (.tuple #[v, .int .i64 er])∧Rdr w' g l∧w.grownBy w' (some g)
theorem Moved.of_same {w:World} {g:Nat} {l:List UInt8} {v:Value} {er:Int} (hr:Rdr w g l) {e:Ending} {w':World} (h:e = .returned (.tuple #[v, .int .i64 er])∧w=w'):Moved w g v er e w':=by
 obtain ⟨rfl,rfl⟩:=h
 exact ⟨rfl,⟨l,hr⟩,grown_refl _ _⟩
set_option maxHeartbeats 1000000 in
theorem stayNum_ok (g:Nat) (l:List UInt8) (k:Nat) (n:Int) (w:World) (hr:Rdr w g l) (Hc:Hid (Calls Tryz.prog 240 #[.pointer (some ⟨g,0,none⟩)] w (ReadPost w g k l (.int .i64 n)))) :
  Calls Tryz.prog 239 #[.pointer (some ⟨g,0,none⟩), .func (Fn.func 240) #[.pointer (some ⟨g,0,none⟩)] #[]] w (ReadPost w g k l (.int .i64 n)):=by
 obtain ⟨A,m,c,hblk,hrd,hnc,hcm⟩:=hr
 have hcell:=block_cell hblk
 clear hblk hrd hnc hcm
 focus
  go_enter Tryz.func239,Tryz.ntmps239
  go_wp2_with fail
  refine Calls.mono Hc.out ?_
  rintro e w' ⟨rfl,hr',hg⟩
  clear hcell
  go_wp2
  go_ret2
  exact ⟨rfl,hr',hg⟩
set_option maxHeartbeats 1000000 in
theorem stayItg_ok (g:Nat) (l:List UInt8) (k:Nat) (n:Int) (w:World) (hr:Rdr w g l) (Hc:Hid (Calls Tryz.prog 258 #[.pointer (some ⟨g,0,none⟩)] w (ReadPost w g k l (.int .i64 n)))) :
  Calls Tryz.prog 239 #[.pointer (some ⟨g,0,none⟩), .func (Fn.func 258) #[.pointer (some ⟨g,0,none⟩)] #[]] w (ReadPost w g k l (.int .i64 n)):=by
 obtain ⟨A,m,c,hblk,hrd,hnc,hcm⟩:=hr
 have hcell:=block_cell hblk
 clear hblk hrd hnc hcm
 focus
  go_enter Tryz.func239,Tryz.ntmps239
  go_wp2_with fail
  refine Calls.mono Hc.out ?_
  rintro e w' ⟨rfl,hr',hg⟩
  clear hcell
  go_wp2
  go_ret2
  exact ⟨rfl,hr',hg⟩
theorem stay_back {w w':World} {g:Nat} {l:List UInt8} {A:Option Addr} {m c:Nat} (hblk:w.heap[g]? = some (.cells #[.slice A m c] 313 (0,0))) (hrd:Rd w A m l) (hnc:m≤c) (hcm:c≤maxLen) (hm : ∃ l',Rdr w' g l') (hg:w.grownBy w' (some g)) :
  ∃ u,w'.cell? ⟨g,0,none⟩=some u∧w'.frozen? ⟨g,0,none⟩=false∧Rdr (w'.setCell ⟨g,0,none⟩ (.slice A m c)) g l∧w.grownBy (w'.setCell ⟨g,0,none⟩ (.slice A m c)) (some g):=by
 obtain ⟨l',A',m',c',hb',_⟩:=hm
 have hgg:=hg.trans (grown_set0 (g:=g) (.slice A m c))
 exact ⟨_,block_cell hb',block_free hb',⟨A,m,c,block_set hb' _,hrd.beside hblk hgg,hnc,hcm⟩,hgg⟩
set_option maxHeartbeats 1000000 in
theorem stayNum_no (g:Nat) (l:List UInt8) (n er:Int) (w:World) (hr:Rdr w g l) (her:(er == 0)=false) (Hc:Hid (Calls Tryz.prog 240 #[.pointer (some ⟨g,0,none⟩)] w (Moved w g (.int .i64 n) er))) :
  Calls Tryz.prog 239 #[.pointer (some ⟨g,0,none⟩), .func (Fn.func 240) #[.pointer (some ⟨g,0,none⟩)] #[]] w (Stays w g l (.int .i64 n) er):=by
 obtain ⟨A,m,c,hblk,hrd,hnc,hcm⟩:=hr
 have hcell:=block_cell hblk
 have Hblk:=Lib.hid hblk
 clear hblk
 have her2:(er != 0)=true:=by simpa using her
 focus
  go_enter Tryz.func239,Tryz.ntmps239
  go_wp2_with fail
  refine Calls.mono Hc.out ?_
  rintro e w' ⟨rfl,hm,hg⟩
  obtain ⟨u,hu,hfr,hr2,hg2⟩:=stay_back Hblk.out hrd hnc hcm hm hg
  clear hcell
  go_wp2
  go_ret2
  exact ⟨rfl,hr2,hg2⟩
set_option maxHeartbeats 1000000 in
theorem stayItg_no (g:Nat) (l:List UInt8) (n er:Int) (w:World) (hr:Rdr w g l) (her:(er == 0)=false) (Hc:Hid (Calls Tryz.prog 258 #[.pointer (some ⟨g,0,none⟩)] w (Moved w g (.int .i64 n) er))) :
  Calls Tryz.prog 239 #[.pointer (some ⟨g,0,none⟩), .func (Fn.func 258) #[.pointer (some ⟨g,0,none⟩)] #[]] w (Stays w g l (.int .i64 n) er):=by
 obtain ⟨A,m,c,hblk,hrd,hnc,hcm⟩:=hr
 have hcell:=block_cell hblk
 have Hblk:=Lib.hid hblk
 clear hblk
 have her2:(er != 0)=true:=by simpa using her
 focus
  go_enter Tryz.func239,Tryz.ntmps239
  go_wp2_with fail
  refine Calls.mono Hc.out ?_
  rintro e w' ⟨rfl,hm,hg⟩
  obtain ⟨u,hu,hfr,hr2,hg2⟩:=stay_back Hblk.out hrd hnc hcm hm hg
  clear hcell
  go_wp2
  go_ret2
  exact ⟨rfl,hr2,hg2⟩
set_option maxHeartbeats 1000000 in
theorem stayText_ok (g:Nat) (l:List UInt8) (k:Nat) (s:ByteArray) (w:World) (hr:Rdr w g l) (Hc:Hid (Calls Tryz.prog 242 #[.pointer (some ⟨g,0,none⟩)] w (ReadPost w g k l (.string s)))) :
  Calls Tryz.prog 241 #[.pointer (some ⟨g,0,none⟩), .func (Fn.func 242) #[.pointer (some ⟨g,0,none⟩)] #[]] w (ReadPost w g k l (.string s)):=by
 obtain ⟨A,m,c,hblk,hrd,hnc,hcm⟩:=hr
 have hcell:=block_cell hblk
 clear hblk hrd hnc hcm
 go_enter Tryz.func241,Tryz.ntmps241
 go_wp2_with fail
 refine Calls.mono Hc.out ?_
 rintro e w' ⟨rfl,hr',hg⟩
 clear hcell
 go_wp2
 go_ret2
 exact ⟨rfl,hr',hg⟩
set_option maxHeartbeats 1000000 in
theorem stayText_no (g:Nat) (l:List UInt8) (s:ByteArray) (er:Int) (w:World) (hr:Rdr w g l) (her:(er == 0)=false) (Hc:Hid (Calls Tryz.prog 242 #[.pointer (some ⟨g,0,none⟩)] w (Moved w g (.string s) er))) :
  Calls Tryz.prog 241 #[.pointer (some ⟨g,0,none⟩), .func (Fn.func 242) #[.pointer (some ⟨g,0,none⟩)] #[]] w (Stays w g l (.string s) er):=by
 obtain ⟨A,m,c,hblk,hrd,hnc,hcm⟩:=hr
 have hcell:=block_cell hblk
 have Hblk:=Lib.hid hblk
 clear hblk
 have her2:(er != 0)=true:=by simpa using her
 go_enter Tryz.func241,Tryz.ntmps241
 go_wp2_with fail
 refine Calls.mono Hc.out ?_
 rintro e w' ⟨rfl,hm,hg⟩
 obtain ⟨u,hu,hfr,hr2,hg2⟩:=stay_back Hblk.out hrd hnc hcm hm hg
 clear hcell
 go_wp2
 go_ret2
 exact ⟨rfl,hr2,hg2⟩
theorem Rdr.drew {w:World} {g:Nat} {l:List UInt8} (h:Rdr w g l):Rdr w.drew g l:=by
 obtain ⟨A,m,c,hblk,hrd,hnc,hcm⟩:=h
 exact ⟨A,m,c,hblk,hrd.drew,hnc,hcm⟩
theorem grown_of_drew {w w':World} {r:Option Nat} (h:w.drew.grownBy w' r):w.grownBy w' r:=⟨h.os,h.tape,h.output,h.size,h.block⟩
def Got (w:World) (g:Nat) (l:List UInt8) (v:Value) (k:Nat) (er:Int) (e:Ending) (w':World):Prop :=
 e = .returned (.tuple #[v, .int .i64 er])∧Rdr w' g (l.drop k)∧w.grownBy w' (some g)
theorem stayNumber_any (g:Nat) (l:List UInt8) (w:World) (hr:Rdr w g l) :
  Calls Tryz.prog 239 #[.pointer (some ⟨g,0,none⟩), .func (Fn.func 240) #[.pointer (some ⟨g,0,none⟩)] #[]] w (Got w g l (.int .i64 (rnum l).1) (rnum l).2.1 (rnum l).2.2):=by
 by_cases h0:(rnum l).2.2=0
 ·obtain ⟨u,hu,_,_,_,hc⟩:=rnum_ok l h0
  rw [hu]
  exact stayNum_ok g l 4 u w hr (hc g w hr)
 ·by_cases h4:l.length < 4
  ·rw [rnum,if_pos h4]
   exact stayNum_no g l 0 10 w hr rfl ((restNumber_no g l w hr h4).mono fun _ _ h=>Moved.of_same hr h)
  ·by_cases h5:127 < (l.getD 0 0).toNat
   ·rw [rnum,if_neg h4,if_pos h5]
    have hx:l[0]? = some (l.getD 0 0):=by simp [List.getD,List.getElem?_eq_getElem (show 0 < l.length by omega)]
    exact stayNum_no g l 0 11 w hr rfl ((restNumber_form g l _ w hr (by omega) hx h5).mono fun _ _ ⟨h1,h2,h3⟩=>⟨h1,⟨_,h2⟩,h3⟩)
   ·exact absurd (by rw [rnum,if_neg h4,if_neg h5]) h0
theorem stayIntAny (g:Nat) (l:List UInt8) (w:World) (hr:Rdr w g l) :
  Calls Tryz.prog 239 #[.pointer (some ⟨g,0,none⟩), .func (Fn.func 258) #[.pointer (some ⟨g,0,none⟩)] #[]] w (Got w g l (.int .i64 (rint l).1) (rint l).2.1 (rint l).2.2):=by
 by_cases h4:l.length < 8
 ·rw [rint,if_pos h4]
  exact stayItg_no g l 0 10 w hr rfl ((restInt_no g l w hr h4).mono fun _ _ h=>Moved.of_same hr h)
 ·rw [rint,if_neg h4]
  exact stayItg_ok g l 8 _ w hr (restInt_yes g l w hr (by omega))
theorem stayTextAny (g:Nat) (l:List UInt8) (w:World) (hr:Rdr w g l) :
  Calls Tryz.prog 241 #[.pointer (some ⟨g,0,none⟩), .func (Fn.func 242) #[.pointer (some ⟨g,0,none⟩)] #[]] w (Got w g l (.string ⟨(rtext l).1.toArray⟩) (rtext l).2.1 (rtext l).2.2):=by
 by_cases h0:(rnum l).2.2=0
 ·obtain ⟨u,hu,hlt,_,h4,hc⟩:=rnum_ok l h0
  rw [rtext,if_neg (by simpa using h0),hu]
  by_cases h7:65536 < u
  ·rw [if_pos (show (65536:Int) < (u:Int) by omega)]
   exact stayText_no g l _ 11 w hr rfl (restText_big g l u w hlt (hc g w hr) h7)
  ·rw [if_neg (show ¬ (65536:Int) < (u:Int) by omega)]
   by_cases h8:l.length < 4+u
   ·rw [if_pos (show (l.length:Int) - 4 < (u:Int) by omega)]
    exact stayText_no g l _ 10 w hr rfl (restText_short g l u w hlt (hc g w hr) (by omega) h4 h8)
   ·rw [if_neg (show ¬ (l.length:Int) - 4 < (u:Int) by omega)]
    exact stayText_ok g l _ _ w hr (restText_ok g l u w hlt (hc g w hr) (by omega) (by omega))
 ·rw [rtext,if_pos h0]
  exact stayText_no g l _ _ w hr (by simpa using h0) (restText_end g l _ w hr rfl h0)
set_option maxHeartbeats 1000000 in
theorem number_any (g:Nat) (l:List UInt8) (w:World) (hr:Rdr w g l) :
  Calls Tryz.prog 197 #[.pointer (some ⟨g,0,none⟩)] w (Got w g l (.int .i64 (rnum l).1) (rnum l).2.1 (rnum l).2.2):=by
 have Hc:=Lib.hid (stayNumber_any g l w.drew hr.drew)
 go_enter Tryz.func197,Tryz.ntmps197
 go_wp2_with fail
 go_region_with (go_at_call 239;refine Calls.mono Hc.out ?_;rintro e w' ⟨rfl,hr',hg⟩)
 go_wp2
 go_ret2
 exact ⟨rfl,hr',grown_of_drew hg⟩
set_option maxHeartbeats 1000000 in
theorem int_any (g:Nat) (l:List UInt8) (w:World) (hr:Rdr w g l) :
  Calls Tryz.prog 247 #[.pointer (some ⟨g,0,none⟩)] w (Got w g l (.int .i64 (rint l).1) (rint l).2.1 (rint l).2.2):=by
 have Hc:=Lib.hid (stayIntAny g l w.drew hr.drew)
 go_enter Tryz.func247,Tryz.ntmps247
 go_wp2_with fail
 go_region_with (go_at_call 239;refine Calls.mono Hc.out ?_;rintro e w' ⟨rfl,hr',hg⟩)
 go_wp2
 go_ret2
 exact ⟨rfl,hr',grown_of_drew hg⟩
set_option maxHeartbeats 1000000 in
theorem text_any (g:Nat) (l:List UInt8) (w:World) (hr:Rdr w g l) :
  Calls Tryz.prog 199 #[.pointer (some ⟨g,0,none⟩)] w (Got w g l (.string ⟨(rtext l).1.toArray⟩) (rtext l).2.1 (rtext l).2.2):=by
 have Hc:=Lib.hid (stayTextAny g l w.drew hr.drew)
 go_enter Tryz.func199,Tryz.ntmps199
 go_wp2_with fail
 go_region_with (go_at_call 241;refine Calls.mono Hc.out ?_;rintro e w' ⟨rfl,hr',hg⟩)
 go_wp2
 go_ret2
 exact ⟨rfl,hr',grown_of_drew hg⟩
set_option maxHeartbeats 400000 in
theorem left_any (g:Nat) (l:List UInt8) (w:World) (hr:Rdr w g l) :
  Calls Tryz.prog 200 #[.pointer (some ⟨g,0,none⟩)] w fun e w'=>e = .returned (.int .i64 (l.length:Int))∧w=w':=by
 obtain ⟨A,m,c,hblk,hrd,hnc,hcm⟩:=hr
 have hcell:=block_cell hblk
 have hl:=hrd.len
 rw [hl]
 clear hblk hrd hl
 unfold maxLen at hcm
 go_enter Tryz.func200,Tryz.ntmps200
 go_wp2
 go_ret
 exact ⟨rfl,rfl⟩
set_option maxHeartbeats 400000 in
theorem new_any (A:Option Addr) (n c:Nat) (l:List UInt8) (w:World) (hl:Rd w A n l) (hn:n≤70368744177664) :
  Calls Tryz.prog 192 #[.slice A n c] w fun e w' => ∃ g,e = .returned (.pointer (some ⟨g,0,none⟩))∧w.heap.size≤g∧g < w'.heap.size∧Rdr w' g l∧Below w.heap.size w w':=by
 have hmk:=run_make_bytes (P:=Tryz.prog) Tryz.underlying311 Tryz.infoU8 n n (by omega) (by omega)
 obtain ⟨w1,hcp,hown1,hb1⟩:=run_copy_new (P:=Tryz.prog) 311 93 3 5 Tryz.underlying311 Tryz.infoU8 A n c n l hl (by omega) (by simp only [maxLen];omega)
 obtain ⟨A2,c2,hv,hc2,hm2,hr2⟩:=hown1.shapeN hl.len
 injection hv with e1 e2 e3
 subst e1 e3
 go_enter Tryz.func192,Tryz.ntmps192
 go_wp2
 go_ret
 refine ⟨_,rfl,hb1.size,by simp,⟨_,n,n,?_,hr2.alloc _,hc2,hm2⟩,hb1.alloc hb1.size _⟩
 exact heap_alloc_new w1 _
end Go.Proofs.YtcodpnbemdflcaaGreatDoor
namespace Go.Proofs.YtcodpnbemdflcaaGreatDoor
open Go.RowKit
theorem ofbe_be4 (u:Nat) (h:u < 4294967296):ofbe (be 4 u)=u:=by
 rw [be4];simp [ofbe];omega
theorem ofbe_be8 (u:Nat) (h:u < 18446744073709551616):ofbe (be 8 u)=u:=by
 rw [be8];simp [ofbe];omega
theorem take_be (s u:Nat) (r:List UInt8):(be s u++r).take s=be s u:=by
 rw [List.take_append_of_le_length (by rw [be_length];omega),List.take_of_length_le (by rw [be_length];omega)]
theorem drop_be (s u:Nat) (r:List UInt8):(be s u++r).drop s=r:=by
 rw [List.drop_append_of_le_length (by rw [be_length];omega),List.drop_of_length_le (by rw [be_length];omega),List.nil_append]
theorem rnum_put (u:Nat) (h:u≤2147483647) (r:List UInt8):rnum (be 4 u++r)=((u:Int),4,0):=by
 have h1 : ¬ (be 4 u++r).length < 4:=by rw [List.length_append,be_length];omega
 have h2 : ¬ 127 < ((be 4 u++r).getD 0 0).toNat:=by
  rw [be4];simp;omega
 rw [rnum,if_neg h1,if_neg h2,take_be,ofbe_be4 u (by omega)]
theorem rint_put (i:Int) (h0 : -9223372036854775808≤i) (h1:i≤9223372036854775807) (r:List UInt8):rint (be 8 (u64n i)++r)=(i,8,0):=by
 have h2 : ¬ (be 8 (u64n i)++r).length < 8:=by rw [List.length_append,be_length];omega
 rw [rint,if_neg h2,take_be,ofbe_be8 _ (u64n_lt i),i64_u64n i h0 h1]
theorem rtext_put (s:List UInt8) (h:s.length≤65536) (r:List UInt8):rtext (be 4 s.length++(s++r))=(s,4+s.length,0):=by
 have h1:=rnum_put s.length (by omega) (s++r)
 have h2 : ¬ (65536:Int) < (s.length:Int):=by omega
 have h3 : ¬ (((be 4 s.length++(s++r)).length:Int) - 4) < (s.length:Int):=by simp only [List.length_append,be_length];omega
 rw [rtext,h1]
 simp only
 rw [if_neg (by simp),if_neg h2,if_neg h3,drop_be,Int.toNat_natCast,List.take_append_of_le_length (by omega),List.take_of_length_le (by omega)]
theorem be_ofbe4 (l:List UInt8) (h:l.length=4):be 4 (ofbe l)=l:=by
 match l,h with
 | [a,b,c,d],_ =>
  have ha:=a.toNat_lt;have hb:=b.toNat_lt;have hc:=c.toNat_lt;have hd:=d.toNat_lt
  rw [be4]
  simp only [ofbe,List.foldl_cons,List.foldl_nil]
  have e : ∀ (x:UInt8) (n:Nat),n % 256=x.toNat→UInt8.ofNat n=x:=fun x n hn=>UInt8.toNat_inj.1 (by simpa using hn)
  rw [e a _ (by omega),e b _ (by omega),e c _ (by omega),e d _ (by omega)]
theorem be_ofbe8 (l:List UInt8) (h:l.length=8):be 8 (ofbe l)=l:=by
 match l,h with
 | [a,b,c,d,a',b',c',d'],_ =>
  have ha:=a.toNat_lt;have hb:=b.toNat_lt;have hc:=c.toNat_lt;have hd:=d.toNat_lt
  have ha':=a'.toNat_lt;have hb':=b'.toNat_lt;have hc':=c'.toNat_lt;have hd':=d'.toNat_lt
  rw [be8]
  simp only [ofbe,List.foldl_cons,List.foldl_nil]
  have e : ∀ (x:UInt8) (n:Nat),n % 256=x.toNat→UInt8.ofNat n=x:=fun x n hn=>UInt8.toNat_inj.1 (by simpa using hn)
  rw [e a _ (by omega),e b _ (by omega),e c _ (by omega),e d _ (by omega),e a' _ (by omega),e b' _ (by omega),e c' _ (by omega),e d' _ (by omega)]
theorem rnum_one {l:List UInt8} (h:(rnum l).2.2=0) : ∃ u:Nat,rnum l=((u:Int),4,0)∧u≤2147483647∧be 4 u=l.take 4∧4≤l.length:=by
 have h4 : ¬ l.length < 4:=by intro h4;rw [rnum,if_pos h4] at h;cases h
 have h5 : ¬ 127 < (l.getD 0 0).toNat:=by intro h5;rw [rnum,if_neg h4,if_pos h5] at h;cases h
 have h6:rnum l=((ofbe (l.take 4):Int),4,0):=by rw [rnum,if_neg h4,if_neg h5]
 refine ⟨_,h6,?_,be_ofbe4 _ (by rw [List.length_take];omega),by omega⟩
 match l,(show 4≤l.length by omega) with
 | a :: b :: c :: d :: r,_ =>
  have ha:=a.toNat_lt;have hb:=b.toNat_lt;have hc:=c.toNat_lt;have hd:=d.toNat_lt
  simp only [List.getD_cons_zero] at h5
  simp [ofbe]
  omega
theorem u64n_wrap' (u:Nat) (h:u < 18446744073709551616):u64n (wrap64 (u:Int))=u:=by
 unfold u64n wrap64;omega
theorem rint_one {l:List UInt8} (h:(rint l).2.2=0):(rint l).2.1=8∧be 8 (u64n (rint l).1)=l.take 8∧8≤l.length:=by
 have h4 : ¬ l.length < 8:=by intro h4;rw [rint,if_pos h4] at h;cases h
 rw [rint,if_neg h4]
 have hl:(l.take 8).length=8:=by rw [List.length_take];omega
 have hu:ofbe (l.take 8) < 18446744073709551616:=by
  have h1:=ofbe_lt (l.take 8)
  rw [hl] at h1
  exact h1
 refine ⟨rfl,?_,by omega⟩
 simp only
 rw [u64n_wrap' _ hu,be_ofbe8 _ hl]
end Go.Proofs.YtcodpnbemdflcaaGreatDoor
namespace Go.Proofs.YtcodpnbemdflcaaGreatDoor
open Go.RowKit
abbrev Prs (α:Type):=List UInt8→Option (α × List UInt8)
structure Codec {α:Type} (p:Prs α) (enc:α→List UInt8) (dom:α→Prop):Prop where
 full : ∀ v r,dom v→p (enc v++r)=some (v,r)
 sound : ∀ l v r,p l=some (v,r)→dom v∧l=enc v++r
def IsNum (n:Int):Prop:=0≤n∧n≤2147483647
def IsInt (n:Int):Prop := -9223372036854775808≤n∧n≤9223372036854775807
def encN (n:Int):List UInt8:=be 4 n.toNat
def encI (n:Int):List UInt8:=be 8 (u64n n)
theorem encN_length (n:Int):(encN n).length=4:=be_length 4 _
theorem encI_length (n:Int):(encI n).length=8:=be_length 8 _
def pnum:Prs Int:=fun l=>if (rnum l).2.2=0 then some ((rnum l).1,l.drop 4) else none
def pint:Prs Int:=fun l=>if (rint l).2.2=0 then some ((rint l).1,l.drop 8) else none
theorem pnum_codec:Codec pnum encN IsNum where
 full v r h:=by
  have h1:=rnum_put v.toNat (by have:=h.2;omega) r
  have h2:((v.toNat:Nat):Int)=v:=Int.toNat_of_nonneg h.1
  unfold pnum encN
  rw [h1,if_pos rfl,drop_be,h2]
 sound l v r h:=by
  unfold pnum at h
  split at h
  ·rename_i h0
   obtain ⟨u,hu,hle,hbe,h4⟩:=rnum_one h0
   injection h with h
   injection h with e1 e2
   rw [hu] at e1
   simp only at e1
   subst e1
   refine ⟨⟨by omega,by omega⟩,?_⟩
   unfold encN
   rw [Int.toNat_natCast,hbe, ← e2,List.take_append_drop]
  ·cases h
theorem wrap64_in (n:Int):IsInt (wrap64 n):=by unfold IsInt wrap64;omega
theorem pint_codec:Codec pint encI IsInt where
 full v r h:=by
  have h1:=rint_put v h.1 h.2 r
  unfold pint encI
  rw [h1,if_pos rfl,drop_be]
 sound l v r h:=by
  unfold pint at h
  split at h
  ·rename_i h0
   obtain ⟨_,hbe,h8⟩:=rint_one h0
   injection h with h
   injection h with e1 e2
   refine ⟨?_,?_⟩
   ·rw [← e1,rint,if_neg (by omega)]
    exact wrap64_in _
   ·unfold encI
    rw [← e1,hbe, ← e2,List.take_append_drop]
  ·cases h
theorem pnum_some {l:List UInt8} {v:Int} {r:List UInt8} (h:pnum l=some (v,r)):(rnum l).1=v∧(rnum l).2.1=4∧(rnum l).2.2=0∧r=l.drop 4∧IsNum v:=by
 have hd:=(pnum_codec.sound l v r h).1
 unfold pnum at h
 split at h
 ·rename_i h0
  obtain ⟨u,hu, -⟩:=rnum_one h0
  injection h with h
  injection h with e1 e2
  exact ⟨e1,by rw [hu],h0,e2.symm,hd⟩
 ·cases h
theorem pnum_none {l:List UInt8} (h:pnum l=none):(rnum l).1=0∧(rnum l).2.1=0∧(rnum l).2.2≠0:=by
 unfold pnum at h
 split at h
 ·cases h
 ·rename_i h0
  unfold rnum at *
  split
  ·exact ⟨rfl,rfl,by simp⟩
  ·split
   ·exact ⟨rfl,rfl,by simp⟩
   ·rename_i h1 h2
    rw [if_neg h1,if_neg h2] at h0
    exact absurd rfl h0
theorem pint_some {l:List UInt8} {v:Int} {r:List UInt8} (h:pint l=some (v,r)):(rint l).1=v∧(rint l).2.1=8∧(rint l).2.2=0∧r=l.drop 8∧IsInt v:=by
 have hd:=(pint_codec.sound l v r h).1
 unfold pint at h
 split at h
 ·rename_i h0
  obtain ⟨hu, -⟩:=rint_one h0
  injection h with h
  injection h with e1 e2
  exact ⟨e1,hu,h0,e2.symm,hd⟩
 ·cases h
theorem pint_none {l:List UInt8} (h:pint l=none):(rint l).1=0∧(rint l).2.1=0∧(rint l).2.2≠0:=by
 unfold pint at h
 split at h
 ·cases h
 ·rename_i h0
  unfold rint at *
  split
  ·exact ⟨rfl,rfl,by simp⟩
  ·rename_i h1
   rw [if_neg h1] at h0
   exact absurd rfl h0
def prep {α:Type} (p:Prs α):Nat→Prs (List α)
 | 0,l=>some ([],l)
 | n+1,l=>(p l).bind fun q=>(prep p n q.2).bind fun s=>some (q.1 :: s.1,s.2)
theorem prep_codec {α:Type} {p:Prs α} {enc:α→List UInt8} {dom:α→Prop} (c:Codec p enc dom) : ∀ n:Nat,Codec (prep p n) (fun vs=>vs.flatMap enc) (fun vs=>vs.length=n ∧ ∀ v ∈ vs,dom v)
 | 0=>⟨fun v r h=>by
   rw [List.eq_nil_of_length_eq_zero h.1];rfl,fun l v r h=>by
   injection h with h
   injection h with e1 e2
   subst e1 e2
   exact ⟨⟨rfl,fun v hv=>by cases hv⟩,rfl⟩⟩
 | n+1=>⟨fun v r h=>by
   match v,h with
   | a :: t,h =>
    have h1:=c.full a (t.flatMap enc++r) (h.2 a (List.mem_cons_self ..))
    have h2:=(prep_codec c n).full t r ⟨Nat.succ.inj h.1,fun v hv=>h.2 v (List.mem_cons_of_mem _ hv)⟩
    show (p ((a :: t).flatMap enc++r)).bind _=_
    rw [List.flatMap_cons,List.append_assoc,h1,Option.bind_some]
    simp only
    rw [h2]
    rfl,fun l v r h=>by
   change (p l).bind _=_ at h
   cases hp:p l with
   | none=>rw [hp] at h;cases h
   | some q =>
    rw [hp,Option.bind_some] at h
    cases hq:prep p n q.2 with
    | none=>rw [hq] at h;cases h
    | some s =>
     rw [hq,Option.bind_some] at h
     injection h with h
     injection h with e1 e2
     subst e1 e2
     obtain ⟨d1,e1⟩:=c.sound l q.1 q.2 hp
     obtain ⟨d2,e2⟩:=(prep_codec c n).sound q.2 s.1 s.2 hq
     refine ⟨⟨by rw [List.length_cons,d2.1],fun v hv => ?_⟩,?_⟩
     ·rcases List.mem_cons.1 hv with e | e
      ·rw [e];exact d1
      ·exact d2.2 v e
     ·rw [e1,List.flatMap_cons,List.append_assoc, ← e2]⟩
theorem prep_snoc {α:Type} {p:Prs α} : ∀ (n:Nat) (l:List UInt8),prep p (n+1) l=(prep p n l).bind fun s=>(p s.2).bind fun q=>some (s.1 ++ [q.1],q.2)
 | 0,l=>by
  show (p l).bind _=_
  cases hp:p l with
  | none=>simp [prep,hp]
  | some q=>simp [prep,hp]
 | n+1,l=>by
  have ih:=fun l=>prep_snoc (p:=p) n l
  show (p l).bind (fun q=>(prep p (n+1) q.2).bind fun s=>some (q.1 :: s.1,s.2))=((p l).bind _).bind _
  cases hp:p l with
  | none=>rfl
  | some q =>
   simp only [Option.bind_some]
   rw [ih]
   cases hq:prep p n q.2 with
   | none=>rfl
   | some s =>
    simp only [Option.bind_some]
    cases hs:p s.2 with
    | none=>rfl
    | some t=>rfl
theorem prep_len {α:Type} {p:Prs α} : ∀ {n:Nat} {l:List UInt8} {vs:List α} {r:List UInt8},prep p n l=some (vs,r)→vs.length=n
 | 0,l,vs,r,h=>by
  injection h with h
  injection h with e1 e2
  subst e1
  rfl
 | n+1,l,vs,r,h=>by
  change (p l).bind _=_ at h
  cases hp:p l with
  | none=>rw [hp] at h;cases h
  | some q =>
   rw [hp,Option.bind_some] at h
   cases hq:prep p n q.2 with
   | none=>rw [hq] at h;cases h
   | some s =>
    rw [hq,Option.bind_some] at h
    injection h with h
    injection h with e1 e2
    subst e1
    rw [List.length_cons,prep_len (vs:=s.1) (r:=s.2) hq]
theorem prep_step {α:Type} {p:Prs α} {n:Nat} {l:List UInt8} {vs:List α} {r:List UInt8} {v:α} {r':List UInt8} (h:prep p n l=some (vs,r)) (k:p r=some (v,r')):prep p (n+1) l=some (vs ++ [v],r'):=by
 rw [prep_snoc,h,Option.bind_some]
 simp only
 rw [k]
 rfl
theorem prep_stop {α:Type} {p:Prs α} {l:List UInt8} {vs:List α} {r:List UInt8} {m:Nat} (h:prep p m l=some (vs,r)) (k:p r=none) : ∀ {n:Nat},m < n→prep p n l=none
 | n+1,hn=>by
  rcases Nat.lt_or_ge m n with h1 | h1
  ·rw [prep_snoc,prep_stop h k h1]
   rfl
  ·obtain rfl:m=n:=by omega
   rw [prep_snoc,h,Option.bind_some]
   simp only
   rw [k]
   rfl
end Go.Proofs.YtcodpnbemdflcaaGreatDoor

/-
  Package pheap: bytes in groups, and packed. Plain mathematics of lists, no program.
  slices.Chunk at a row of bytes: what its iterator hands over, one group after the other; bytes.TrimLeft of bytes 0.
  bytes.TrimLeft of bytes 0; strings.CutPrefix and TrimPrefix of a sign; package pheap: blank: contracts.
  append of so many bytes 0, as make in an append lays them.
  []byte(s): a text's bytes as a new row.
  Package pheap: unpack: what was packed comes back: contract. append of so many bytes 0.
-/
import Derived.Test.YtcodpnbemdflcaaGreatDoorTg1
import Derived.RangeFuncNested
import Derived.RangeFuncBound
import Derived.RangeFuncCalls
import Derived.RangeFuncLeaves
import Derived.RangeFuncBox
import Derived.Shelf.Abstract
import Derived.Shelf.RegionOpen
import Derived.WalkKit
import Derived.OwnWalkIn
import Derived.TacticsInMore
import Derived.LoopNIn
import Derived.LoopIn
import Derived.BigRegionIn
import Derived.Lib.MinMax
import Derived.Sort.QuietIn
import Derived.Test.YtcodpnbemdflcaaGreatDoorTg36
import Derived.Lib.AppendStr
import Derived.Lib.ConvBytes
namespace Go.Proofs.YtcodpnbemdflcaaGreatDoor
open Go.RowKit
def grp {α:Type} (n:Nat) (b:List α) (k:Nat):List α:=(b.drop (n*k)).take n
def gcnt (n m:Nat):Nat:=(m+n - 1) / n
def grps {α:Type} (n:Nat) (b:List α):List (List α):=(List.range (gcnt n b.length)).map (grp n b)
theorem gcnt_add {n m:Nat} (h:0 < n):gcnt n (n+m)=gcnt n m+1:=by
 unfold gcnt
 rw [show n+m+n - 1=(m+n - 1)+n by omega,Nat.add_div_right _ h]
theorem grps_cons {α:Type} {n:Nat} (hn:0 < n) {a:List α} (ha:a.length=n) (b:List α):grps n (a++b)=a :: grps n b:=by
 unfold grps
 rw [List.length_append,ha,gcnt_add hn,List.range_succ_eq_map,List.map_cons,List.map_map]
 congr 1
 ·unfold grp
  rw [Nat.mul_zero,List.drop_zero, ← ha,List.take_left]
 ·apply List.map_congr_left
  intro k _
  show grp n (a++b) (k+1)=grp n b k
  unfold grp
  rw [show n*(k+1)=a.length+n*k by rw [Nat.mul_add];omega,List.drop_append,List.drop_eq_nil_of_le (by omega),List.nil_append,Nat.add_sub_cancel_left]
theorem grps_nil {α:Type} {n:Nat} (hn:0 < n):grps n ([]:List α) = []:=by
 unfold grps gcnt
 rw [List.length_nil,Nat.zero_add,Nat.div_eq_of_lt (by omega)]
 rfl
theorem grp_length {α:Type} (n:Nat) (b:List α) (k:Nat):(grp n b k).length≤n:=List.length_take_le _ _
theorem grps_length {α:Type} (n:Nat) (b:List α):(grps n b).length=gcnt n b.length:=by simp [grps]
theorem grps_flat {α:Type} {n:Nat} (hn:0 < n) : ∀ (m:Nat) (b:List α),b.length≤m→(grps n b).flatten=b
 | 0,b,h=>by
  obtain rfl:b = []:=List.eq_nil_of_length_eq_zero (by omega)
  rw [grps_nil hn]
  rfl
 | m+1,b,h=>by
  by_cases hb:n≤b.length
  ·conv=>lhs;rw [← List.take_append_drop n b]
   rw [grps_cons hn (by rw [List.length_take];omega),List.flatten_cons,grps_flat hn m _ (by rw [List.length_drop];omega),List.take_append_drop]
  ·by_cases h0:b = []
   ·subst h0
    rw [grps_nil hn]
    rfl
   ·have h1:0 < b.length:=List.length_pos_iff.2 h0
    have:gcnt n b.length=1:=by
     unfold gcnt
     rw [show b.length+n - 1=(b.length - 1)+n by omega,Nat.add_div_right _ hn,Nat.div_eq_of_lt (by omega)]
    unfold grps
    rw [this]
    show [grp n b 0].flatten=b
    simp [grp,List.take_of_length_le (show b.length≤n by omega)]
def lefts (g:List UInt8):List UInt8:=g.dropWhile (· == 0)
def pk1 (g:List UInt8):List UInt8:=UInt8.ofNat (lefts g).length :: lefts g
def pkd (b:List UInt8):List UInt8:=(grps 4 b).flatMap pk1
theorem lefts_le (g:List UInt8):(lefts g).length≤g.length:=(List.dropWhile_sublist _).length_le
theorem lefts_pad : ∀ (g:List UInt8),List.replicate (g.length - (lefts g).length) 0++lefts g=g
 | []=>rfl
 | a :: t=>by
  by_cases h:a=0
  ·subst h
   have e:lefts (0 :: t)=lefts t:=by simp [lefts]
   rw [e,List.length_cons,show t.length+1 - (lefts t).length=(t.length - (lefts t).length)+1 by have:=lefts_le t;omega,List.replicate_succ,List.cons_append,lefts_pad t]
  ·have e:lefts (a :: t)=a :: t:=by simp [lefts,h]
   rw [e]
   simp
theorem pkd_nil:pkd [] = []:=by unfold pkd;rw [grps_nil (by decide)];rfl
theorem pkd_cons {a:List UInt8} (ha:a.length=4) (b:List UInt8):pkd (a++b)=pk1 a++pkd b:=by
 unfold pkd
 rw [grps_cons (by decide) ha,List.flatMap_cons]
theorem pkd_app : ∀ (m:Nat) {a:List UInt8} (_:a.length=4*m) (b:List UInt8),pkd (a++b)=pkd a++pkd b
 | 0,a,h,b=>by
  obtain rfl:a = []:=List.eq_nil_of_length_eq_zero (by omega)
  rw [pkd_nil]
  rfl
 | m+1,a,h,b=>by
  obtain ⟨u,v,rfl,hu⟩ : ∃ u v,a=u++v∧u.length=4:=⟨a.take 4,a.drop 4,(List.take_append_drop 4 a).symm,by rw [List.length_take];omega⟩
  rw [List.append_assoc,pkd_cons hu,pkd_cons hu,pkd_app m (by rw [List.length_append] at h;omega),List.append_assoc]
theorem pk1_len (g:List UInt8):(pk1 g).length=1+(lefts g).length:=by simp [pk1];omega
def Fours (b:List UInt8):Prop := ∃ m,b.length=4*m
theorem Fours.app {a b:List UInt8} (h:Fours a) (k:Fours b):Fours (a++b):=by
 obtain ⟨m,hm⟩:=h
 obtain ⟨n,hn⟩:=k
 exact ⟨m+n,by rw [List.length_append];omega⟩
theorem Fours.nil:Fours []:=⟨0,rfl⟩
theorem Fours.flat {α:Type} {f:α→List UInt8} : ∀ {l:List α},(∀ x ∈ l,Fours (f x))→Fours (l.flatMap f)
 | [],_ => .nil
 | a :: t,h=>by rw [List.flatMap_cons];exact (h a (by simp)).app (Fours.flat fun x hx=>h x (List.mem_cons_of_mem _ hx))
theorem pkd_split {a:List UInt8} (h:Fours a) (b:List UInt8):pkd (a++b)=pkd a++pkd b:=by
 obtain ⟨m,hm⟩:=h
 exact pkd_app m hm b
theorem pkd_flat {α:Type} {f:α→List UInt8} {c:α→Nat} : ∀ {l:List α},(∀ x ∈ l,Fours (f x))→(∀ x ∈ l,(pkd (f x)).length≤c x)→(pkd (l.flatMap f)).length≤(l.map c).sum
 | [],_,_=>by simp [pkd_nil]
 | a :: t,h,k=>by
  rw [List.flatMap_cons,pkd_split (h a (by simp)),List.length_append,List.map_cons,List.sum_cons]
  have h1:=k a (by simp)
  have h2:=pkd_flat (l:=t) (fun x hx=>h x (List.mem_cons_of_mem _ hx)) (fun x hx=>k x (List.mem_cons_of_mem _ hx))
  omega
theorem pkd_four {a:List UInt8} (h:a.length=4):pkd a=pk1 a:=by
 have:=pkd_cons h []
 rwa [List.append_nil,pkd_nil,List.append_nil] at this
theorem pkd_four_le {a:List UInt8} (h:a.length=4):(pkd a).length≤5:=by
 rw [pkd_four h,pk1_len]
 have:=lefts_le a
 omega
theorem pkd_eight_le {a:List UInt8} (h:a.length=8):(pkd a).length≤10:=by
 obtain ⟨u,v,rfl,hu⟩ : ∃ u v,a=u++v∧u.length=4:=⟨a.take 4,a.drop 4,(List.take_append_drop 4 a).symm,by rw [List.length_take];omega⟩
 rw [pkd_split ⟨1,by omega⟩,List.length_append]
 have h1:=pkd_four_le hu
 have h2:=pkd_four_le (a:=v) (by rw [List.length_append] at h;omega)
 omega
theorem pkd_be {u:Nat} (h:u < 65536):(pkd (be 4 u)).length≤3:=by
 rw [pkd_four (be_length 4 u),pk1_len]
 have e:be 4 u = [0,0,UInt8.ofNat (u / 256),UInt8.ofNat u]:=by
  have a:UInt8.ofNat (u / 16777216)=0:=by rw [Nat.div_eq_of_lt (by omega)];rfl
  have b:UInt8.ofNat (u / 65536)=0:=by rw [Nat.div_eq_of_lt (by omega)];rfl
  simp [be,List.range_succ,a,b]
 rw [e]
 have:lefts [0,0,UInt8.ofNat (u / 256),UInt8.ofNat u]=lefts [UInt8.ofNat (u / 256),UInt8.ofNat u]:=by simp [lefts]
 rw [this]
 have:=lefts_le [UInt8.ofNat (u / 256),UInt8.ofNat u]
 simp at this
 omega
def signed (c:List (List UInt8)):List (List UInt8):=c.dropLast.map (112 :: ·)++(c.getLast?.map (108 :: ·)).toList
theorem signed_length (c:List (List UInt8)):(signed c).length=c.length:=by
 cases c with
 | nil=>rfl
 | cons a t=>simp [signed,List.getLast?_cons]
theorem signed_mem {c:List (List UInt8)} {t:List UInt8} (h:t ∈ signed c) : ∃ x u,u ∈ c∧t=x :: u:=by
 unfold signed at h
 rcases List.mem_append.1 h with h | h
 ·obtain ⟨u,hu,rfl⟩:=List.mem_map.1 h
  exact ⟨112,u,List.dropLast_subset c hu,rfl⟩
 ·cases e:c.getLast? with
  | none=>rw [e] at h;cases h
  | some u =>
   rw [e] at h
   simp at h
   subst h
   exact ⟨108,u,List.mem_of_getLast? e,rfl⟩
theorem grps_mem {α:Type} {n:Nat} {b:List α} {g:List α} (h:g ∈ grps n b):g.length≤n:=by
 unfold grps at h
 obtain ⟨k,_,rfl⟩:=List.mem_map.1 h
 exact grp_length _ _ _
def pcsB (b:List UInt8):List (List UInt8):=signed (grps 1023 (pkd b))
theorem pcsB_mem {b t:List UInt8} (h:t ∈ pcsB b):1≤t.length∧t.length≤1024:=by
 obtain ⟨x,u,hu,rfl⟩:=signed_mem h
 have:=grps_mem hu
 rw [List.length_cons]
 omega
theorem pcsB_length {b:List UInt8} (h:(pkd b).length≤4092):(pcsB b).length≤4:=by
 unfold pcsB
 rw [signed_length,grps_length]
 unfold gcnt
 omega
end Go.Proofs.YtcodpnbemdflcaaGreatDoor
namespace Go.Proofs.YtcodpnbemdflcaaGreatDoor
open Go.RowKit Go.Shelf
attribute [local go_sem] Oper.semAt_some
def chv (b off n m k:Nat):Value := .slice (some ⟨b,off+m*k,none⟩) (min m (n - m*k)) (min m (n - m*k))
def finTo (n:Nat) {G:Nat} (_:n≤G):List (Fin G):=(List.finRange G).take n
theorem finTo_succ {n G:Nat} (h:n+1≤G):finTo (n+1) h=finTo n (by omega) ++ [⟨n,h⟩]:=by
 unfold finTo
 rw [List.take_add_one,List.getElem?_eq_getElem (by simp;omega)]
 simp
theorem finTo_length {n G:Nat} (h:n≤G):(finTo n h).length=n:=by simp [finTo,h]
theorem finTo_all (G:Nat):finTo G (Nat.le_refl G)=List.finRange G:=by unfold finTo;rw [List.take_of_length_le (by simp)]
theorem gcnt_lt {n m k:Nat} (hm:0 < m):k < gcnt m n ↔ m*k < n:=by
 unfold gcnt
 rw [Nat.lt_iff_add_one_le,Nat.le_div_iff_mul_le hm,Nat.add_mul,Nat.one_mul,Nat.mul_comm]
 omega
def KpC (Bs Bn:Nat) (W W':World):Prop := ∀ k,(k=Bs∨k=Bn)→W'.heap[k]? = W.heap[k]?
theorem KpC.trans {Bs Bn:Nat} {A B C:World} (h:KpC Bs Bn A B) (k:KpC Bs Bn B C):KpC Bs Bn A C:=fun i hi=>(k i hi).trans (h i hi)
theorem cell_same {W W':World} {p:Addr} (h:W'.heap[p.block]? = W.heap[p.block]?):W'.cell? p=W.cell? p:=by unfold World.cell?;rw [h]
theorem KpC.put {Bs Bn B:Nat} (hs:Bs < B) (hn:Bn < B) (W:World) (l:Nat) (o':Obj) (hl:B≤l):KpC Bs Bn W (W.putObj l o'):=fun k hk=>by
 unfold World.putObj
 rw [Array.getElem?_setIfInBounds_ne (by rcases hk with h | h <;> omega)]
set_option maxRecDepth 100000 in
set_option maxHeartbeats 2000000 in
theorem chunk1_in (d:Nat) (hd:1≤d) (l Bs Bn b off n c m:Nat) (hm:0 < m) (hnb:n+m≤1000000) (hnc:n≤c) (J Jx:List (Fin (gcnt m n))→World→Prop)
  (hJ : ∀ s W k,J s W→J s (W.drewN k))
  (hY : ∀ pre x W,J pre W→pre.length < gcnt m n→YieldAt Fence.wide (d - 1) Tryz.prog l #[chv b off n m x.1] W fun e W' =>
   (e = .returned (.bool true)∧J (pre ++ [x]) W'∧KpC Bs Bn W W')∨(e = .returned (.bool false)∧Jx (pre ++ [x]) W'))
  (W:World) (hBs:W.cell? ⟨Bs,0,none⟩=some (.slice (some ⟨b,off,none⟩) n c)) (hBn:W.cell? ⟨Bn,0,none⟩=some (.int .i64 (m:Int))) (h0:J [] W) :
  CallsIn Fence.wide d Tryz.prog 161 #[.func (.yield l) #[] #[], .pointer (some ⟨Bs,0,none⟩), .pointer (some ⟨Bn,0,none⟩)] W fun e W'=>(∃ v,e = .returned v) ∧
   ((∃ ys,ys=List.finRange (gcnt m n)∧J ys W')∨(∃ pre,True∧Jx pre W')):=by
 refine callsIn_of_wp Tryz.func161 rfl trivial ?_ rfl
 simp only [Tryz.ntmps161,List.size_toArray,List.length_cons,List.length_nil,Nat.reduceAdd,Nat.reduceSub,Array.replicate_succ,Array.replicate_zero,List.push_toArray,List.append_toArray,List.nil_append,List.cons_append]
 gi_wp2
 gi_loopw [4] (fun i wr => ∃ (k q:Nat) (hk:k≤gcnt m n),Hid (q=m*k)∧i = .int .i64 (q:Int)∧J (finTo k hk) wr∧KpC Bs Bn W wr)
  (fun i _=>n+m - (Go.RowKit.intOf i).toNat)
 case atStart=>exact ⟨0,0,Nat.zero_le _,Lib.hid rfl,rfl,h0,fun _ _=>rfl⟩
 case round =>
  obtain ⟨k,q,hk,hq,rfl,hJs,hnx⟩:=hrel
  have hs:=(cell_same (p:=⟨Bs,0,none⟩) (hnx Bs (.inl rfl))).trans hBs
  have hn:=(cell_same (p:=⟨Bn,0,none⟩) (hnx Bn (.inr rfl))).trans hBn
  by_cases hlt:k < gcnt m n
  ·have hqn:q < n:=by rw [hq.out];exact (gcnt_lt hm).1 hlt
   obtain ⟨e,he⟩ : ∃ e,e=min m (n - q):=⟨_,rfl⟩
   have e1:e≤m:=by omega
   have e2:q+e≤n:=by omega
   have e3:0 < e:=by omega
   have e4:min (m:Int) ((n - q:Nat):Int)=(e:Int):=by omega
   have e5:((q:Int)+(e:Int)).toNat - q=e:=by omega
   obtain ⟨x,hx⟩ : ∃ x:Fin (gcnt m n),x=⟨k,hlt⟩:=⟨_,rfl⟩
   have ech:chv b off n m x.1 = .slice (some ⟨b,off+q,none⟩) e e:=by rw [hx];simp only [chv, ← hq.out, ← he]
   have HY:=Lib.hid (fun nq=>hY _ x (wr.drewN nq) (hJ _ _ nq hJs) (by rw [finTo_length];exact hlt))
   rw [ech] at HY
   have HX:=Lib.hid hx
   have Hlt:=Lib.hid hlt
   clear ech hx hJs he h0 hY hJ
   gi_wp2
   gi_quiet (fail)
   have hs':(wr.drewN nq).cell? ⟨Bs,0,none⟩=some (.slice (some ⟨b,off,none⟩) n c):=hs
   have hn':(wr.drewN nq).cell? ⟨Bn,0,none⟩=some (.int .i64 (m:Int)):=hn
   obtain ⟨fn,tmps,assign,body,hy,hR⟩:=HY.out nq
   gi_wp2
   refine hR.mono ?_
   rintro e W3 (⟨rfl,hJ3,hk3⟩ | ⟨rfl,hJx3⟩)
   ·have hs:=(cell_same (p:=⟨Bs,0,none⟩) (hk3 Bs (.inl rfl))).trans hs'
    have hn:=(cell_same (p:=⟨Bn,0,none⟩) (hk3 Bn (.inr rfl))).trans hn'
    gi_wp2
    go_roundw
    case rel=>exact ⟨k+1,q+m,Hlt.out,Lib.hid (by rw [Nat.mul_add,hq.out];omega),by simp,by rw [finTo_succ Hlt.out, ← HX.out];exact hJ3,hnx.trans (KpC.trans (fun _ _=>rfl) hk3)⟩
    case measure=>simp [Go.RowKit.intOf];omega
   ·gi_wp2
    refine bodyPost_ret (results_none rfl _ _ _) rfl ?_
    exact ⟨⟨_,rfl⟩, .inr ⟨_,trivial,hJx3⟩⟩
  ·obtain rfl:k=gcnt m n:=by omega
   have hge : ¬ (q:Int) < (n:Int):=fun h=>hlt ((gcnt_lt hm).2 (by rw [← hq.out];omega))
   have HJ:=Lib.hid hJs
   clear hlt hJs h0 hY hJ
   gi_wp2
   go_end0
   first
    | exact ⟨⟨_,rfl⟩, .inl ⟨_,(finTo_all _),HJ.out⟩⟩
    | exact ⟨⟨_,rfl⟩, .inl (by have h9:=HJ.out;rwa [finTo_all] at h9)⟩
end Go.Proofs.YtcodpnbemdflcaaGreatDoor
namespace Go.Proofs.YtcodpnbemdflcaaGreatDoor
open Go.RowKit
theorem lefts_zero (l:List UInt8):lefts (0 :: l)=lefts l:=by simp [lefts]
theorem lefts_other {x:UInt8} (h:x≠0) (l:List UInt8):lefts (x :: l)=x :: l:=by simp [lefts,h]
def TrimPost (w0 w:World) (g:List UInt8) (e:Ending) (w':World):Prop :=
 ∃ A c,e = .returned (.slice A (lefts g).length c)∧(lefts g).length≤c∧Rd w0 A (lefts g).length (lefts g)∧w'=w
set_option maxHeartbeats 1000000 in
theorem trimByte_any {A:Option Addr} {n c:Nat} {g:List UInt8} {w0 w:World} (h:Rd w0 A n g) (hb:Below w0.heap.size w0 w) (hn:n≤1000000) (hnc:n≤c) (hc:c≤70368744177664) :
  Calls Tryz.prog 214 #[.slice A n c, .int .u8 0] w (TrimPost w0 w g):=by
 have HL:=Lib.hid h
 have Hc:=Lib.hid hc
 have Hnc:=Lib.hid hnc
 have Hlen:=Lib.hid h.len
 have HB:=Lib.hid hb
 clear h hnc hc hb
 go_enter Tryz.func214,Tryz.ntmps214
 go_wp2
 go_loop [0] (fun s => ∃ (B:Option Addr) (m d:Nat) (r:List UInt8),s = .slice B m d∧Hid (m≤d)∧Hid (d≤70368744177664)∧m≤n∧Hid (Rd w0 B m r)∧Hid (lefts r=lefts g)) (fun s=>match s with | .slice _ m _=>m | _=>0)
 case atStart=>exact ⟨A,n,c,g,rfl,Hnc,Hc,Nat.le_refl _,HL,Lib.hid rfl⟩
 case round =>
  obtain ⟨B,m,d,r,rfl,hmd,hd,hmn,hr,hg⟩:=hrel
  cases r with
  | nil =>
   obtain rfl:m=0:=hr.out.len.symm
   go_wp2
   go_ret
   have h0:lefts g = []:=hg.out.symm
   unfold TrimPost
   rw [h0]
   exact ⟨none,0,rfl,Nat.zero_le _,Rd.nil,rfl⟩
  | cons x r =>
   have hm:m=r.length+1:=hr.out.len.symm
   have Hm:=Lib.hid hm
   obtain ⟨b,off,y,rfl,hbb,hx,hcell⟩:=(hr.out.below HB.out).cell (j:=0) (by omega)
   injection hx with hx
   subst hx
   have hpos:0 < m:=by omega
   have hlt:decide (0 < (m:Int))=true:=by simp;omega
   by_cases h0:x=0
   ·subst h0
    rw [show ((0:UInt8).toNat:Int)=0 from rfl,Nat.add_zero] at hcell
    have K:=Lib.hid (hr.out.cut (k:=1) (cap:=d) (by omega) hmd.out)
    have hmi:1≤m:=hpos
    clear hm
    have Hg:=Lib.hid (show lefts r=lefts g by rw [← hg.out,lefts_zero])
    have Hd:=Lib.hid (show d - 1≤70368744177664 by have:=hd.out;omega)
    have Hmd:=Lib.hid (show m - 1≤d - 1 by have:=hmd.out;omega)
    go_wp2
    refine ⟨⟨_,_,_,r,rfl,Hmd,Hd,by omega,Lib.hid ?_,Hg⟩,by show m - 1 < m;omega⟩
    have:=K.out
    simpa [add_plain] using this
   ·have hne : ¬ (x.toNat:Int)=0:=fun e=>h0 (by
     have:x.toNat=0:=by omega
     exact UInt8.toNat_inj.1 this)
    rw [Nat.add_zero] at hcell
    generalize (x.toNat:Int)=y at hcell hne
    clear hm
    have Hg:=Lib.hid (show lefts g=x :: r by rw [← hg.out,lefts_other h0])
    go_wp2
    go_ret
    unfold TrimPost
    rw [Hg.out,List.length_cons, ← Hm.out]
    exact ⟨_,_,rfl,hmd.out,hr.out,rfl⟩
set_option maxHeartbeats 1000000 in
theorem trimLeft_any {A:Option Addr} {n c:Nat} {g:List UInt8} {w0 w:World} (h:Rd w0 A n g) (hb:Below w0.heap.size w0 w) (hn:n≤1000000) (h0:0 < n) (hnc:n≤c) (hc:c≤70368744177664) :
  Calls Tryz.prog 162 #[.slice A n c, .string ⟨#[0]⟩] w (TrimPost w0 w g):=by
 have H1:=trimByte_any h hb hn hnc hc
 have hne : ¬ (n:Int)=0:=by omega
 have hx0:(ByteArray.mk #[0]).size=1:=rfl
 have hg0:((⟨#[0]⟩:ByteArray)[0]'Nat.zero_lt_one)=0:=rfl
 clear h hnc hc hb
 go_enter Tryz.func162,Tryz.ntmps162
 go_wp2_with (go_at_call 214;refine H1.mono ?_;rintro e w1 ⟨A1,c1,rfl,q1,q2,rfl⟩)
 go_ret
 exact ⟨A1,c1,rfl,q1,q2,rfl⟩
theorem sign_cut (y:UInt8) (t:List UInt8):(ByteArray.mk (y :: t).toArray).extract 0 1=ByteArray.mk #[y]∧(ByteArray.mk (y :: t).toArray).extract 1 (t.length+1)=ByteArray.mk t.toArray∧(ByteArray.mk (y :: t).toArray).size=t.length+1:=by
 refine ⟨?_,?_,?_⟩
 ·apply ByteArray.ext
  simp [ByteArray.data_extract]
 ·apply ByteArray.ext
  simp [ByteArray.data_extract]
 ·show (y :: t).toArray.size=_
  simp
theorem sign_ne {x y:UInt8} (h:y≠x) : ¬ ByteArray.mk #[y]=ByteArray.mk #[x]:=fun e=>h (by injection e with e;simpa using e)
set_option maxHeartbeats 1000000 in
theorem hasPrefix_any (y x:UInt8) (t:List UInt8) (w:World) (ht:t.length≤1000000) :
  Calls Tryz.prog 202 #[.string ⟨(y :: t).toArray⟩, .string ⟨#[x]⟩] w fun e w'=>e = .returned (.bool (decide (y=x)))∧w'=w:=by
 obtain ⟨e1,_,e3⟩:=sign_cut y t
 have hx1:(ByteArray.mk #[x]).size=1:=rfl
 generalize ByteArray.mk (y :: t).toArray=s at *
 by_cases h:y=x
 ·subst h
  generalize ByteArray.mk #[y]=p at *
  go_enter Tryz.func202,Tryz.ntmps202
  go_wp2
  go_ret
  exact ⟨by simp,rfl⟩
 ·have hne : ¬ (ByteArray.mk #[y]).toList=(ByteArray.mk #[x]).toList:=fun e=>sign_ne h (by
   rw [ByteArray.toList_eq,ByteArray.toList_eq] at e
   exact ByteArray.ext (Array.toList_inj.mp e))
  have hd:decide (y=x)=false:=decide_eq_false h
  rw [hd]
  clear h hd
  generalize ByteArray.mk #[y]=p at *
  generalize ByteArray.mk #[x]=q at *
  go_enter Tryz.func202,Tryz.ntmps202
  go_wp2
  go_ret
  exact ⟨by simp [hne],rfl⟩
set_option maxHeartbeats 1000000 in
theorem cutPrefix_any (y x:UInt8) (t:List UInt8) (w:World) (ht:t.length≤1000000) :
  Calls Tryz.prog 109 #[.string ⟨(y :: t).toArray⟩, .string ⟨#[x]⟩] w fun e w'=>e = .returned (.tuple #[.string (if y=x then ⟨t.toArray⟩ else ⟨(y :: t).toArray⟩), .bool (decide (y=x))])∧w'=w:=by
 have H1:Calls Tryz.prog 153 #[.string ⟨(y :: t).toArray⟩, .string ⟨#[x]⟩] w fun e w'=>e = .returned (.tuple #[.string (if y=x then ⟨t.toArray⟩ else ⟨(y :: t).toArray⟩), .bool (decide (y=x))])∧w'=w:=by
  have H0:=hasPrefix_any y x t w ht
  obtain ⟨_,e2,e3⟩:=sign_cut y t
  have hx1:(ByteArray.mk #[x]).size=1:=rfl
  generalize ByteArray.mk (y :: t).toArray=s at *
  by_cases h:y=x
  ·rw [if_pos h]
   rw [decide_eq_true h] at H0 ⊢
   clear h
   generalize ByteArray.mk #[x]=q at *
   generalize ByteArray.mk t.toArray=r at *
   go_enter Tryz.func153,Tryz.ntmps153
   go_wp2_with (go_at_call 202;refine H0.mono ?_;rintro e w1 ⟨rfl,hw⟩;subst hw)
   go_ret2
   exact ⟨by simp,rfl⟩
  ·rw [if_neg h]
   rw [decide_eq_false h] at H0 ⊢
   clear h
   generalize ByteArray.mk #[x]=q at *
   go_enter Tryz.func153,Tryz.ntmps153
   go_wp2_with (go_at_call 202;refine H0.mono ?_;rintro e w1 ⟨rfl,hw⟩;subst hw)
   go_ret2
   exact ⟨rfl,rfl⟩
 generalize (if y=x then (⟨t.toArray⟩:ByteArray) else ⟨(y :: t).toArray⟩)=r at *
 generalize ByteArray.mk (y :: t).toArray=s at *
 generalize ByteArray.mk #[x]=q at *
 generalize decide (y=x)=d at *
 go_enter Tryz.func109,Tryz.ntmps109
 go_wp2_with (go_at_call 153;refine H1.mono ?_;rintro e w1 ⟨rfl,hw⟩;subst hw)
 go_ret2
 exact ⟨rfl,rfl⟩
set_option maxHeartbeats 1000000 in
theorem trimPrefix_any (y:UInt8) (t:List UInt8) (w:World) (ht:t.length≤1000000) :
  Calls Tryz.prog 114 #[.string ⟨(y :: t).toArray⟩, .string ⟨#[y]⟩] w fun e w'=>e = .returned (.string ⟨t.toArray⟩)∧w'=w:=by
 have H1:Calls Tryz.prog 157 #[.string ⟨(y :: t).toArray⟩, .string ⟨#[y]⟩] w fun e w'=>e = .returned (.string ⟨t.toArray⟩)∧w'=w:=by
  have H0:=hasPrefix_any y y t w ht
  obtain ⟨_,e2,e3⟩:=sign_cut y t
  have hx1:(ByteArray.mk #[y]).size=1:=rfl
  rw [decide_eq_true rfl] at H0
  generalize ByteArray.mk (y :: t).toArray=s at *
  generalize ByteArray.mk #[y]=q at *
  generalize ByteArray.mk t.toArray=r at *
  go_enter Tryz.func157,Tryz.ntmps157
  go_wp2_with (go_at_call 202;refine H0.mono ?_;rintro e w1 ⟨rfl,hw⟩;subst hw)
  go_ret
  exact ⟨by simp,rfl⟩
 generalize ByteArray.mk (y :: t).toArray=s at *
 generalize ByteArray.mk #[y]=q at *
 generalize ByteArray.mk t.toArray=r at *
 go_enter Tryz.func114,Tryz.ntmps114
 go_wp2_with (go_at_call 157;refine H1.mono ?_;rintro e w1 ⟨rfl,hw⟩;subst hw)
 go_ret
 exact ⟨rfl,rfl⟩
set_option maxHeartbeats 1000000 in
theorem pblank_any {A:Option Addr} {n c:Nat} {l:List UInt8} {w:World} (h:Rd w A n l) (hn:n≤1000000) :
  Calls Tryz.prog 33 #[.slice A n c] w fun e w'=>e = .returned (.bool (allz l))∧w'=w:=by
 have HL:=Lib.hid h
 have Hlen:=Lib.hid h.len
 clear h
 go_enter Tryz.func33,Tryz.ntmps33
 go_wp2
 go_loop [7] (fun i => ∃ k:Nat,k≤n∧i = .int .i64 (k:Int)∧allz (l.take k)=true) (fun i=>n - (Go.RowKit.intOf i).toNat)
 case atStart=>exact ⟨0,Nat.zero_le _,rfl,rfl⟩
 case round =>
  obtain ⟨k,hk,rfl,hz⟩:=hrel
  have HZ:=Lib.hid hz
  clear hz
  by_cases hlt:k < n
  ·obtain ⟨b,off,x,rfl,hbb,hx,hcell⟩:=HL.out.cell hlt
   have HX:=Lib.hid hx
   clear hx
   by_cases h0:x=0
   ·subst h0
    have e1:allz (l.take (k+1))=true:=by
     have:=HZ.out
     rw [List.take_add_one,HX.out,allz,List.all_append]
     unfold allz at this
     rw [this]
     rfl
    have E1:=Lib.hid e1
    have e0:((0:UInt8).toNat:Int)=0:=rfl
    rw [e0] at hcell
    clear e1 e0
    go_wp2
    refine ⟨⟨k+1,hlt,by go_num,E1.out⟩,by simp [Go.RowKit.intOf];omega⟩
   ·have hne : ¬ (x.toNat:Int)=0:=fun e=>h0 (by
     have:x.toNat=0:=by omega
     exact UInt8.toNat_inj.1 this)
    have e1:allz l=false:=by
     rw [allz,List.all_eq_false]
     exact ⟨x,List.mem_of_getElem? HX.out,by simpa using h0⟩
    have E1:=Lib.hid e1
    generalize (x.toNat:Int)=y at hcell hne
    clear e1
    go_wp2
    go_ret
    exact ⟨by rw [E1.out];rfl,rfl⟩
  ·obtain rfl:k=n:=by omega
   have e1:l.take k=l:=List.take_of_length_le (by rw [Hlen.out];exact Nat.le_refl _)
   have e2:allz l=true:=by
    have:=HZ.out
    rwa [e1] at this
   have E2:=Lib.hid e2
   clear e1 e2
   go_wp2
   go_ret
   exact ⟨by rw [E2.out];rfl,rfl⟩
end Go.Proofs.YtcodpnbemdflcaaGreatDoor
namespace Go.Proofs.YtcodpnbemdflcaaGreatDoor
open Go.RowKit
theorem run_app_zeros {P:Program} {w w':World} (t u tn ty U:TypeId) (ht:P.underlying t=some (.slice U)) (hu:P.underlying u=some .string) (htn:P.underlying tn=some (.int .i64)) (hinfo:(P.info? U).map (fun i=>(i.zero,i.size,i.bytes))=some (some (.int .u8 0),1,1))
  {A:Option Addr} {n c k:Nat} {v':Value} {s:ByteArray} (hs:s=⟨(List.replicate k 0).toArray⟩) (hk:n+k≤1000000) (h1:(Builtin.append_ #[t,u] ty #[.slice A n c, .string s]).run P w = .ok v' w') :
  (Builtin.append_ #[t,tn] ty #[.slice A n c, .int .i64 (k:Int)]).run P w = .ok v' w':=by
 obtain ⟨i0,hi,hz0,hz1,hz2⟩:=info_parts hinfo
 have hsz:s.size=k:=by rw [hs];show (List.replicate k (0:UInt8)).toArray.size=k;simp
 have hfc : ∀ W,(Builtin.firstCells 1 k (.string s)).run P W = .ok (Lib.strCells s).toArray W:=fun W=>by rw [← hsz];exact Lib.run_firstCells_string W 1 s
 have hst:(Lib.strCells s).toArray=Builtin.zeroCells #[.int .u8 0] k:=by
  rw [hs]
  unfold Lib.strCells Builtin.zeroCells
  apply Array.ext
  ·simp
  ·intro i h1 h2
   simp [Nat.mod_one]
 have hc1:(Value.int IntKind.u8 0).cells = #[.int .u8 0]:=rfl
 have hw:IntKind.i64.wrap (k:Int)=k:=by rw [IntKind.wrap_i64];omega
 have hneg : ¬ ((k:Int) < 0):=by omega
 have hb : ¬ (281474976710656 < (k:Int)):=by omega
 have hmx : ¬ (9223372036854775807 < ((n:Int)+(k:Int))):=by omega
 rw [hst] at hfc
 by_cases h0:k=0
 ·subst h0
  have hz0':Builtin.zeroCells #[.int .u8 0] 0 = #[]:=by simp [Builtin.zeroCells]
  rw [hz0'] at hfc
  have hw0:IntKind.i64.wrap 0=0:=rfl
  have hmx0 : ¬ (9223372036854775807 < (n:Int)):=by omega
  by_cases hc:n≤c
  ·rw [← h1]
   simp [Builtin.append_,run_underlying ht,run_underlying htn,run_underlying hu,sizeOf,typeInfo,zeroValue,hi,hz0,hz1,hz2,asInt,asIntOf,hw0,hfc,hsz,Builtin.lenOf,hc]
  ·by_cases hfit:281474976710656 < Builtin.nextslicecap n c
   ·exfalso
    revert h1
    simp [Builtin.append_,run_underlying ht,run_underlying hu,sizeOf,typeInfo,hi,hz1,hz2,hfit,hsz,Builtin.lenOf,hc]
    cases hm:Sem.run P (Builtin.mayShare 1 n 0 A (.string s)) w <;> simp [Result.andThen]
   ·rw [← h1]
    simp [Builtin.append_,run_underlying ht,run_underlying htn,run_underlying hu,sizeOf,typeInfo,zeroValue,hi,hz0,hz1,hz2,asInt,asIntOf,hw0,hmx0,hfit,hfc,hsz,Builtin.lenOf,hc]
 ·by_cases hc:n+k≤c
  ·rw [← h1]
   simp [Builtin.append_,run_underlying ht,run_underlying htn,run_underlying hu,sizeOf,typeInfo,zeroValue,hi,hz0,hz1,hz2,asInt,asIntOf,hw,hneg,hb,hfc,hsz,Builtin.lenOf,hc,h0,hc1]
  ·by_cases hfit:281474976710656 < Builtin.nextslicecap (n+k) c
   ·exfalso
    revert h1
    simp [Builtin.append_,run_underlying ht,run_underlying hu,sizeOf,typeInfo,hi,hz1,hz2,hfit,hsz,Builtin.lenOf,hc]
    cases hm:Sem.run P (Builtin.mayShare 1 n k A (.string s)) w <;> simp [Result.andThen]
   ·rw [← h1]
    simp [Builtin.append_,run_underlying ht,run_underlying htn,run_underlying hu,sizeOf,typeInfo,zeroValue,hi,hz0,hz1,hz2,asInt,asIntOf,hw,hneg,hb,hmx,hfit,hfc,hsz,Builtin.lenOf,hc,h0,hc1]
end Go.Proofs.YtcodpnbemdflcaaGreatDoor
namespace Go.Proofs.YtcodpnbemdflcaaGreatDoor
open Go.RowKit
theorem bytes_of (w:World) (s:ByteArray) (hs:s.size≤maxLen) : ∃ c w2,(convert 9 93 (.string s)).run Tryz.prog w = .ok (.slice (some ⟨w.heap.size,0,none⟩) s.size c) w2∧Rd w2 (some ⟨w.heap.size,0,none⟩) s.size s.data.toList∧Below w.heap.size w w2∧s.size≤c∧c≤maxLen:=by
 refine ⟨_,_,Lib.run_convert_string_bytes w 9 93 5 s Tryz.underlying9 Tryz.underlying93 Tryz.underlying5,⟨rfl,fun _=>⟨w.heap.size,0,rfl,by rw [Lib.bytesWorld_size];omega,fun j x hx => ?_⟩⟩,⟨?_,?_,?_,?_,fun k hk=>Lib.bytesWorld_at_old _ _ _ _ hk⟩,grownCap_ge _ _ _ _,grownCap_le_maxLen _ _ _ _ hs⟩
 ·have hj:j < s.data.toList.length:=(List.getElem?_eq_some_iff.1 hx).1
  rw [Nat.zero_add,Lib.bytesWorld_cell w 5 s j (by have h2:=hj;rw [Array.length_toList] at h2;exact h2)]
  simp [List.getD_eq_getElem?_getD,hx]
 ·simp [Lib.bytesWorld,World.freeze,World.alloc,World.drew, -World.alloc_eq, -World.drew_eq]
 ·simp [Lib.bytesWorld,World.freeze,World.alloc,World.drew, -World.alloc_eq, -World.drew_eq]
 ·simp [Lib.bytesWorld,World.freeze,World.alloc,World.drew, -World.alloc_eq, -World.drew_eq]
 ·rw [Lib.bytesWorld_size];omega
end Go.Proofs.YtcodpnbemdflcaaGreatDoor
namespace Go.Proofs.YtcodpnbemdflcaaGreatDoor
open Go.RowKit
theorem ba_cut (l m:List UInt8):(ByteArray.mk (l++m).toArray).extract 0 l.length=ByteArray.mk l.toArray∧(ByteArray.mk (l++m).toArray).extract l.length (l.length+m.length)=ByteArray.mk m.toArray∧(ByteArray.mk (l++m).toArray).size=l.length+m.length:=by
 refine ⟨?_,?_,?_⟩
 ·apply ByteArray.ext
  simp [ByteArray.data_extract]
 ·apply ByteArray.ext
  simp [ByteArray.data_extract]
 ·show (l++m).toArray.size=_
  simp
def UnRel (w:World) (b:List UInt8) (p v:Value) (wr:World):Prop :=
 ∃ s d r,p = .string s∧Hid (s=ByteArray.mk (pkd r).toArray)∧Hid (b=d++r∧Fours r)∧Own 5 wr w.heap.size v d∧Below w.heap.size w wr
set_option maxRecDepth 20000 in
set_option maxHeartbeats 2000000 in
theorem unpack_any {b:List UInt8} {w:World} (hb:Fours b) (hl:b.length≤100000) :
  Calls Tryz.prog 112 #[.string ⟨(pkd b).toArray⟩] w (Gives w b):=by
 obtain ⟨s0,hs0⟩ : ∃ s0,s0=ByteArray.mk (pkd b).toArray:=⟨_,rfl⟩
 rw [← hs0]
 have HS:=Lib.hid hs0
 have HB:=Lib.hid hb
 have HL:=Lib.hid hl
 clear hs0 hb hl
 go_enter Tryz.func112,Tryz.ntmps112
 go_wp2
 go_loopw [0,3] (UnRel w b) (fun p _ _=>match p with | .string s=>s.size | _=>0)
 case atStart=>exact ⟨s0, [],b,rfl,HS,Lib.hid ⟨rfl,HB.out⟩,Own.nil,Below.refl _ _⟩
 case round =>
  obtain ⟨s,d,r,rfl,hs,hbr,hown,hbel⟩:=hrel
  obtain ⟨k,hk⟩:=hbr.out.2
  by_cases h0:k=0
  ·subst h0
   have hr0:r = []:=List.eq_nil_of_length_eq_zero (by omega)
   have hsz:s.size=0:=by
    rw [hs.out,hr0,pkd_nil]
    rfl
   have he:=Lib.hid (show d=b by rw [hbr.out.1,hr0,List.append_nil])
   have Ho:=Lib.hid (And.intro hown hbel)
   clear hown hbel hk hr0
   go_wp2
   go_ret
   rw [← he.out]
   exact ⟨_,rfl,Ho.out.1,Ho.out.2⟩
  ·obtain ⟨g,r',rfl,hg⟩ : ∃ g r',r=g++r'∧g.length=4:=⟨r.take 4,r.drop 4,(List.take_append_drop 4 r).symm,by rw [List.length_take];omega⟩
   have hr':Fours r':=⟨k - 1,by rw [List.length_append] at hk;omega⟩
   have hpk:pkd (g++r')=UInt8.ofNat (lefts g).length :: (lefts g++pkd r'):=by rw [pkd_cons hg,pk1];rfl
   have hpad:=lefts_pad g
   have hll:=lefts_le g
   rw [hg] at hpad hll
   obtain ⟨t,ht⟩ : ∃ t,t=lefts g:=⟨_,rfl⟩
   obtain ⟨m,hm⟩ : ∃ m,m=t.length:=⟨_,rfl⟩
   rw [← ht] at hpk hpad hll
   rw [← hm] at hpk hpad hll
   have hs':=hs.out
   rw [hpk] at hs'
   obtain ⟨_,e2,e3⟩:=sign_cut (UInt8.ofNat m) (t++pkd r')
   obtain ⟨f1,f2,f3⟩:=ba_cut t (pkd r')
   rw [← hs'] at e2 e3
   obtain ⟨s1,hs1⟩ : ∃ s1,s1=ByteArray.mk (t++pkd r').toArray:=⟨_,rfl⟩
   obtain ⟨s2,hs2⟩ : ∃ s2,s2=ByteArray.mk (pkd r').toArray:=⟨_,rfl⟩
   obtain ⟨s3,hs3⟩ : ∃ s3,s3=ByteArray.mk t.toArray:=⟨_,rfl⟩
   rw [← hs1] at e2 f1 f2 f3
   rw [← hs2] at f2
   rw [← hs3] at f1
   rw [List.length_append] at e2 e3
   obtain ⟨R,hR⟩ : ∃ R,R=(pkd r').length:=⟨_,rfl⟩
   rw [← hm, ← hR] at e2 e3 f2 f3
   rw [← hm] at f1
   have ki : ∀ W:World,(Instr.index 9 (.string s) (.int .i64 0)).run Tryz.prog W = .ok (.int .u8 (m:Int)) W:=fun W=>by
    rw [run_index_string (P:=Tryz.prog) (h:=Tryz.underlying9),dif_pos ⟨by decide,by omega⟩]
    have hg : ∀ (h:(0:Int).toNat < s.size),s[(0:Int).toNat]'h=UInt8.ofNat m:=by
     rw [hs']
     intro h
     rfl
    rw [hg]
    have:(UInt8.ofNat m).toNat=m:=by
     rw [UInt8.toNat_ofNat']
     omega
    rw [this]
   have ez:(4:Int) - (m:Int)=((4 - m:Nat):Int):=by omega
   have hd:d.length≤100000:=by have h1:=hbr.out.1;have h2:=HL.out;rw [h1,List.length_append] at h2;omega
   obtain ⟨A,cc,rfl,hcc,_,_⟩:=hown.shapeN (n:=d.length) rfl
   obtain ⟨z,hz⟩ : ∃ z,z=ByteArray.mk (List.replicate (4 - m) (0:UInt8)).toArray:=⟨_,rfl⟩
   have hzs:z.size=4 - m:=by rw [hz];show (List.replicate (4 - m) (0:UInt8)).toArray.size=_;simp
   obtain ⟨v1,w1,ha1,ho1,hg1⟩:=run_app_string (P:=Tryz.prog) w.heap.size 93 9 93 5 Tryz.underlying93 Tryz.underlying9 Tryz.infoU8 _ d hown z (by omega) hbel.size
   have ha2:=run_app_zeros (P:=Tryz.prog) 93 9 3 93 5 Tryz.underlying93 Tryz.underlying9 Tryz.underlying3 Tryz.infoU8 hz (by omega) ha1
   obtain ⟨v3,w3,ha3,ho3,hg3⟩:=run_app_string (P:=Tryz.prog) w.heap.size 93 9 93 5 Tryz.underlying93 Tryz.underlying9 Tryz.infoU8 _ _ ho1 s3 (by
    have:s3.size=m:=by rw [hs3,hm];rfl
    rw [List.length_append,show z.data.toList.length=z.size from rfl,hzs,this]
    omega) (Nat.le_trans hbel.size hg1.size)
   have hB1:=below_app hbel hown hg1 hbel.size
   have hB3:=below_app hB1 ho1 hg3 hB1.size
   have e9:(d++z.data.toList)++s3.data.toList=d++g:=by
    rw [hz,hs3,List.append_assoc]
    congr 1
   rw [e9] at ho3
   have HE:=Lib.hid (And.intro (show b=(d++g)++r' by rw [hbr.out.1,List.append_assoc]) (And.intro hr' (And.intro ho3 (And.intro hB3 hs2))))
   have hm4:(m:Int)≤4:=by omega
   have hlt:(s2.size:Nat) < s.size:=by rw [e3,hs2];show (pkd r').toArray.size < _;rw [hR];simp;omega
   have Hlt:=Lib.hid hlt
   have hmi : ¬ ((4:Int) < (m:Int)):=by omega
   have hmr : ¬ ((m:Int)+(R:Int) < (m:Int)):=by omega
   have HZ:=Lib.hid e3
   have hsz:(s.size:Int)=(m:Int)+(R:Int)+1:=by omega
   have hsp:0 < s.size:=by omega
   clear hm
   clear hown hbel hk hr' hpk hpad hll ht hs' hs1 hs2 hs3 hR hz hzs ha1 ho1 hg1 ho3 hg3 hB1 hB3 e9 hd hcc hg h0 hlt
   go_wp2_with (first | (at_builtin;refine wpList_append_run ha2 rfl _ _ rfl rfl rfl rfl ?_) | (at_builtin;refine wpList_append_run ha3 rfl _ _ rfl rfl rfl rfl ?_))
   exact ⟨⟨s2,d++g,r',rfl,HE.out.2.2.2.2 |> Lib.hid,Lib.hid ⟨HE.out.1,HE.out.2.1⟩,HE.out.2.2.1,HE.out.2.2.2.1⟩,Hlt.out⟩
end Go.Proofs.YtcodpnbemdflcaaGreatDoor

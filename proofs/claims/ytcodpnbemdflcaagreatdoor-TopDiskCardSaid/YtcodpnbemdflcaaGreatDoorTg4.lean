/-
  The kit's contracts of slices.Sorted, maps.Keys and slices.Sort at ints, laid at this program's functions, in plain words. No condition of its own.
  The places of dirty sectors, in order: slices.Sorted(maps.Keys(m)): contracts, out of the kit's. No condition but that the map is one of sectors.
  Package pdisk: Crash: a contract at a disk.
-/
import Derived.Shelf.SlGeneric
import Derived.Shelf.SlIterI.Nil
import Derived.Shelf.SortM.Plain
import Derived.Shelf.SortM.SortNone
import Derived.Ground.GgzProg
import Derived.Ground.SlgmProg
import Derived.Test.YtcodpnbemdflcaaGreatDoorProg
import Derived.Test.YtcodpnbemdflcaaGreatDoorTg3
namespace Go.Proofs
open Go.Shelf
def Tryz.keysS_ren:Go.Shelf.Ren:=⟨fun | 7=>28 | 10=>61 | n=>n,fun | 23=>84 | 26=>3 | 3=>86 | 28=>82 | 0=>0 | 27=>81 | 33=>92 | 4=>4 | n=>n,fun | n=>n⟩
theorem Tryz.keysS:Go.Proofs.SlLaysZI.n7 Tryz.prog Tryz.keysS_ren := {
 mixed:=by kernel_rfl
 f7:=⟨Tryz.f28.name,by decide,Tryz.func28.trans (congrArg some (by kernel_rfl))⟩
 f10:=⟨Tryz.f61.name,by decide,Tryz.func61.trans (congrArg some (by kernel_rfl))⟩
 t0:=Tryz.underlying0
 a0:=Tryz.isAgg0
 z0:=Tryz.sizeOf0
 v0:=Tryz.zeroValue0
 t4:=Tryz.underlying4
 a4:=Tryz.isAgg4
 z4:=Tryz.sizeOf4
 v4:=Tryz.zeroValue4
 t23:=Tryz.underlying84
 a23:=Tryz.isAgg84
 z23:=Tryz.sizeOf84
 v23:=Tryz.zeroValue84
 t26:=Tryz.underlying3
 a26:=Tryz.isAgg3
 z26:=Tryz.sizeOf3
 v26:=Tryz.zeroValue3
 t27:=Tryz.underlying81
 a27:=Tryz.isAgg81
 z27:=Tryz.sizeOf81
 v27:=Tryz.zeroValue81
 t28:=Tryz.underlying82
 a28:=Tryz.isAgg82
 z28:=Tryz.sizeOf82
 v28:=Tryz.zeroValue82
 t33:=Tryz.underlying92
 a33:=Tryz.isAgg92
 z33:=Tryz.sizeOf92
 v33:=Tryz.zeroValue92 }
def Tryz.sortedI_ren:Go.Shelf.Ren:=⟨fun | 6=>27 | 8=>59 | 9=>60 | 11=>99 | 13=>101 | 12=>100 | 23=>147 | 24=>148 | 14=>138 | 15=>139 | 16=>140 | 17=>141 | 18=>142 | 19=>143 | 20=>144 | 21=>145 | 22=>146 | 25=>186 | 26=>187 | 27=>188 | 28=>189 | 29=>190 | 30=>122 | 31=>236 | n=>n,fun | 26=>3 | 28=>82 | 24=>58 | 0=>0 | 3=>3 | 37=>158 | 48=>225 | 50=>227 | 4=>4 | 40=>218 | 39=>217 | 45=>140 | 5=>5 | 9=>9 | 51=>262 | 55=>112 | 57=>308 | 58=>309 | 33=>92 | n=>n,fun | n=>n⟩
theorem Tryz.sortedI:Go.Proofs.SlLaysZI.n6 Tryz.prog Tryz.sortedI_ren := {
 mixed:=by kernel_rfl
 f6:=⟨Tryz.f27.name,by decide,Tryz.func27.trans (congrArg some (by kernel_rfl))⟩
 f8:=⟨Tryz.f59.name,by decide,Tryz.func59.trans (congrArg some (by kernel_rfl))⟩
 f11:=⟨Tryz.f99.name,by decide,Tryz.func99.trans (congrArg some (by kernel_rfl))⟩
 t0:=Tryz.underlying0
 a0:=Tryz.isAgg0
 z0:=Tryz.sizeOf0
 v0:=Tryz.zeroValue0
 t24:=Tryz.underlying58
 a24:=Tryz.isAgg58
 z24:=Tryz.sizeOf58
 v24:=Tryz.zeroValue58
 t26:=Tryz.underlying3
 a26:=Tryz.isAgg3
 z26:=Tryz.sizeOf3
 v26:=Tryz.zeroValue3
 t28:=Tryz.underlying82
 a28:=Tryz.isAgg82
 z28:=Tryz.sizeOf82
 v28:=Tryz.zeroValue82
 i26:=by kernel_rfl }
def Tryz.sortI_ren:Go.Shelf.Ren:=⟨fun | 5=>60 | 8=>101 | 7=>100 | 19=>147 | 20=>148 | 10=>138 | 11=>139 | 12=>140 | 13=>141 | 14=>142 | 15=>143 | 16=>144 | 17=>145 | 18=>146 | 30=>186 | 31=>187 | 32=>188 | 33=>189 | 34=>190 | 35=>122 | 40=>236 | n=>n,fun | 23=>58 | 25=>3 | 3=>3 | 32=>158 | 22=>58 | 0=>0 | 44=>225 | 46=>227 | 4=>4 | 36=>218 | 35=>217 | 41=>140 | 5=>5 | 9=>9 | 53=>262 | 57=>112 | 63=>308 | 64=>309 | n=>n,fun | n=>n⟩
theorem Tryz.sortI:Go.Proofs.SlLaysM.n5 Tryz.prog Tryz.sortI_ren := {
 mixed:=by kernel_rfl
 f5:=⟨Tryz.f60.name,by decide,Tryz.func60.trans (congrArg some (by kernel_rfl))⟩
 f7:=⟨Tryz.f100.name,by decide,Tryz.func100.trans (congrArg some (by kernel_rfl))⟩
 f8:=Tryz.func101.trans (congrArg some (by kernel_rfl))
 f10:=⟨Tryz.f138.name,by decide,Tryz.func138.trans (congrArg some (by kernel_rfl))⟩
 f11:=⟨Tryz.f139.name,by decide,Tryz.func139.trans (congrArg some (by kernel_rfl))⟩
 f12:=⟨Tryz.f140.name,by decide,Tryz.func140.trans (congrArg some (by kernel_rfl))⟩
 f13:=⟨Tryz.f141.name,by decide,Tryz.func141.trans (congrArg some (by kernel_rfl))⟩
 f14:=⟨Tryz.f142.name,by decide,Tryz.func142.trans (congrArg some (by kernel_rfl))⟩
 f15:=⟨Tryz.f143.name,by decide,Tryz.func143.trans (congrArg some (by kernel_rfl))⟩
 f16:=⟨Tryz.f144.name,by decide,Tryz.func144.trans (congrArg some (by kernel_rfl))⟩
 f17:=⟨Tryz.f145.name,by decide,Tryz.func145.trans (congrArg some (by kernel_rfl))⟩
 f18:=⟨Tryz.f146.name,by decide,Tryz.func146.trans (congrArg some (by kernel_rfl))⟩
 f19:=Tryz.func147.trans (congrArg some (by kernel_rfl))
 f20:=Tryz.func148.trans (congrArg some (by kernel_rfl))
 f30:=⟨Tryz.f186.name,by decide,Tryz.func186.trans (congrArg some (by kernel_rfl))⟩
 f31:=Tryz.func187.trans (congrArg some (by kernel_rfl))
 f32:=Tryz.func188.trans (congrArg some (by kernel_rfl))
 f33:=⟨Tryz.f189.name,by decide,Tryz.func189.trans (congrArg some (by kernel_rfl))⟩
 f34:=⟨Tryz.f190.name,by decide,Tryz.func190.trans (congrArg some (by kernel_rfl))⟩
 f35:=⟨Tryz.f122.name,by decide,Tryz.func122.trans (congrArg some (by kernel_rfl))⟩
 f40:=⟨Tryz.f236.name,by decide,Tryz.func236.trans (congrArg some (by kernel_rfl))⟩
 t0:=Tryz.underlying0
 a0:=Tryz.isAgg0
 z0:=Tryz.sizeOf0
 v0:=Tryz.zeroValue0
 t3:=Tryz.underlying3
 a3:=Tryz.isAgg3
 z3:=Tryz.sizeOf3
 v3:=Tryz.zeroValue3
 t4:=Tryz.underlying4
 a4:=Tryz.isAgg4
 z4:=Tryz.sizeOf4
 v4:=Tryz.zeroValue4
 t5:=Tryz.underlying5
 a5:=Tryz.isAgg5
 z5:=Tryz.sizeOf5
 v5:=Tryz.zeroValue5
 t9:=Tryz.underlying9
 a9:=Tryz.isAgg9
 z9:=Tryz.sizeOf9
 v9:=Tryz.zeroValue9
 t22:=Tryz.underlying58
 a22:=Tryz.isAgg58
 z22:=Tryz.sizeOf58
 v22:=Tryz.zeroValue58
 t23:=Tryz.underlying58
 a23:=Tryz.isAgg58
 z23:=Tryz.sizeOf58
 v23:=Tryz.zeroValue58
 t25:=Tryz.underlying3
 a25:=Tryz.isAgg3
 z25:=Tryz.sizeOf3
 v25:=Tryz.zeroValue3
 t32:=Tryz.underlying158
 a32:=Tryz.isAgg158
 z32:=Tryz.sizeOf158
 v32:=Tryz.zeroValue158
 t35:=Tryz.underlying217
 a35:=Tryz.isAgg217
 z35:=Tryz.sizeOf217
 v35:=Tryz.zeroValue217
 t36:=Tryz.underlying218
 a36:=Tryz.isAgg218
 z36:=Tryz.sizeOf218
 v36:=Tryz.zeroValue218
 t41:=Tryz.underlying140
 a41:=Tryz.isAgg140
 z41:=Tryz.sizeOf140
 v41:=Tryz.zeroValue140
 t44:=Tryz.underlying225
 a44:=Tryz.isAgg225
 z44:=Tryz.sizeOf225
 v44:=Tryz.zeroValue225
 t46:=Tryz.underlying227
 a46:=Tryz.isAgg227
 z46:=Tryz.sizeOf227
 v46:=Tryz.zeroValue227
 t53:=Tryz.underlying262
 a53:=Tryz.isAgg262
 z53:=Tryz.sizeOf262
 v53:=Tryz.zeroValue262
 t57:=Tryz.underlying112
 a57:=Tryz.isAgg112
 z57:=Tryz.sizeOf112
 v57:=Tryz.zeroValue112
 t63:=Tryz.underlying308
 a63:=Tryz.isAgg308
 z63:=Tryz.sizeOf308
 v63:=Tryz.zeroValue308
 t64:=Tryz.underlying309
 a64:=Tryz.isAgg309
 z64:=Tryz.sizeOf309
 v64:=Tryz.zeroValue309 }
end Go.Proofs
namespace Go.Proofs.YtcodpnbemdflcaaGreatDoor
open Go.RowKit Go.Maps Go.Sort Go.Shelf
theorem sortsI (m:Nat):AnyZI.SortsIn Tryz.prog Tryz.sortedI_ren Fence.wide m :=
 ⟨fun blk off cap ss W hH hblk hsz=>callsIn_wide.2 (AnyM.slices_Sort_int Tryz.sortI blk off cap ss W hH hblk hsz),
  fun p cap W=>callsIn_wide.2 (AnyM.slices_Sort_int_none Tryz.sortI p cap W)⟩
theorem keys_any (mb:Option Nat) (W:World):Calls Tryz.prog 28 #[.map mb] W fun e w' =>
  e = .returned (.func (.func 61) #[] #[.pointer (some ⟨W.heap.size,0,none⟩)])∧w'=W.alloc (.cells #[.map mb] 84):=by
 refine (callsIn_wide (n:=5)).1 ?_
 exact AnyZI.keys_in Tryz.keysS Fence.wide 5 trivial rfl mb W
def nvs (l:List Nat):List Value:=l.map fun k:Nat => .int .i64 (k:Int)
def KeysPost (w w0:World) (had:Nat→Option (List UInt8)) (e:Ending) (w':World):Prop :=
 ∃ (v:Value) (ks:List Nat),e = .returned v∧ks.Pairwise (· < ·)∧(∀ k,k ∈ ks ↔ (had k).isSome=true)∧OwnV 3 w' w.heap.size v (nvs ks)∧Below w0.heap.size w0 w'
set_option maxHeartbeats 1000000 in
theorem sorted_any {w:World} {r n:Nat} {had:Nat→Option (List UInt8)} (h:HadAt w r n had) (hn:n≤4096) :
  Calls Tryz.prog 27 #[.func (.func 61) #[] #[.pointer (some ⟨w.heap.size,0,none⟩)]]
   (w.alloc (.cells #[.map (some r)] 84)) (KeysPost w (w.alloc (.cells #[.map (some r)] 84)) had):=by
 obtain ⟨D,hown,hhas,_,hlt,hkey⟩:=h
 have hsz:=hown.size_le
 refine (callsIn_wide (n:=5)).1 ?_
 have hbl:=hown.lt
 have hseq:SeqGives Fence.wide 2 Tryz.prog 61 #[.pointer (some ⟨w.heap.size,0,none⟩)] encZ (fun ss=>ss.Perm (intKeys D)) (Maps.size D) (w.alloc (.cells #[.map (some r)] 84)) :=
  AnyZI.keys_gives (ρ:=Tryz.keysS_ren) { Tryz.keysS with } Fence.wide _ trivial rfl (by omega) w.heap.size r n D _ (by simp) (by simp) (by
   obtain ⟨es,clock,hb,Ft,hs,hD⟩:=hown
   exact ⟨es,clock,(Below.heap_alloc _ _ r hbl).trans hb,Ft,hs,hD⟩)
 have cS:=AnyZI.sorted_in Tryz.sortedI Fence.wide 5 trivial trivial trivial trivial rfl (by omega) (sortsI _) (enters_of Tryz.func60 (by kernel_rfl) rfl) 61 #[.pointer (some ⟨w.heap.size,0,none⟩)] trivial (enters_of Tryz.func61 (by kernel_rfl) rfl) _ _ (by unfold maxLen;omega) (by omega) _ hseq
 change CallsIn _ _ Tryz.prog 27 _ _ _ at cS
 refine cS.mono fun e w' q => ?_
 obtain ⟨v,ss,rfl,hperm,hrow,_,hb⟩:=q
 obtain ⟨es,hD,hp,hi⟩:=ownsMap_ints hown
 have hnd:(ss.mergeSort fun x y=>decide (x≤y)).Nodup:=by
  rw [(List.mergeSort_perm _ _).nodup_iff,hperm.nodup_iff,hD]
  exact keys_nodup hp hi
 have hmem : ∀ x,x ∈ (ss.mergeSort fun x y=>decide (x≤y)) ↔ Maps.has D (.int .i64 x)=true:=fun x=>by
  rw [(List.mergeSort_perm _ _).mem_iff,hperm.mem_iff,hD]
  exact mem_keys hi x
 have hle:(ss.mergeSort fun x y=>decide (x≤y)).Pairwise fun x y=>decide (x≤y)=true :=
  List.pairwise_mergeSort (fun a b c h1 h2=>by simp only [decide_eq_true_eq] at *;omega) (fun a b=>by simp only [Bool.or_eq_true,decide_eq_true_eq];omega) ss
 have hlen:(ss.mergeSort fun x y=>decide (x≤y)).length=ss.length:=List.length_mergeSort ss
 rw [← hlen] at hrow
 generalize (ss.mergeSort fun x y=>decide (x≤y))=zs at hnd hmem hle hrow
 have hback : ∀ x ∈ zs,((x.toNat:Nat):Int)=x:=fun x hx=>by
  obtain ⟨k,rfl⟩:=hkey x ((hmem x).1 hx)
  simp
 have hpw:(zs.map Int.toNat).Pairwise (· < ·):=by
  rw [List.pairwise_map]
  refine (hle.and hnd).imp_of_mem fun {a b} ha hb hab => ?_
  have h1:=hback a ha
  have h2:=hback b hb
  have h3:a≤b:=by simpa using hab.1
  have h4:=hab.2
  omega
 refine ⟨v,zs.map Int.toNat,rfl,hpw,fun k => ?_,?_,hb⟩
 ·rw [← hhas, ← hmem,List.mem_map]
  constructor
  ·rintro ⟨x,hx,rfl⟩
   rw [hback x hx]
   exact hx
  ·intro hk
   exact ⟨(k:Int),hk,by simp⟩
 ·have e1:nvs (zs.map Int.toNat)=zs.map encZ:=by
   rw [nvs,List.map_map]
   exact List.map_congr_left fun x hx=>by simp only [Function.comp_apply,hback x hx]
  rw [e1]
  have hm:World.ownsRow w' w.heap.size 3 1 v (zs.map encZ).length (zs.map encZ):=by
   rw [List.length_map]
   refine ⟨hrow.1,?_⟩
   rcases hrow.2 with h2 | ⟨g,cap,cur,hv,hg,r⟩
   ·exact .inl h2
   ·exact .inr ⟨g,cap,cur,hv,by simp at hg;omega,r⟩
  exact hm
end Go.Proofs.YtcodpnbemdflcaaGreatDoor
namespace Go.Proofs.YtcodpnbemdflcaaGreatDoor
open Go.RowKit Go.Maps
def tvs (l:List Bool):List Value:=l.map .bool
theorem tvs_get {l:List Bool} {j:Nat} (hj:j < l.length):(tvs l)[j]? = some (.bool (l.getD j false)):=by
 simp [tvs,List.getD,List.getElem?_eq_getElem hj]
def CrPost (w:World) (p q r n:Nat) (S:Dk) (keep:List Bool) (e:Ending) (w':World):Prop :=
 ∃ ks,Dirty S.had ks∧e = .returned (.int .i64 0)∧DAt w' p q r n (crS S keep ks)∧Oth (ds p q r) w w'
def CrRel (w:World) (p q r n:Nat) (S:Dk) (keep:List Bool) (ks:List Nat) (i:Value) (wr:World):Prop :=
 ∃ k:Nat,k≤ks.length∧i = .int .i64 (k:Int)∧DAt wr p q r n { S with now:=crN keep S.had ks k S.now } ∧ Oth (ds p q r) w wr
section
variable {w:World} {p q r n:Nat} {S:Dk}
set_option maxRecDepth 20000 in
set_option maxHeartbeats 1000000 in
theorem crash_any (h:DAt w p q r n S) {A:Option Addr} {m c:Nat} {keep:List Bool} (hk:RdV w A m (tvs keep)) (hA:0 < m → ∀ x,A=some x → ¬ ds p q r x.block) :
  Calls Tryz.prog 12 #[.pointer (some ⟨p,0,none⟩), .slice A m c] w (CrPost w p q r n S keep):=by
 have c1:=h.c1
 have kk:=keys_any (some r) w
 have ksd:=sorted_any h.had h.most
 go_enter Tryz.func12,Tryz.ntmps12
 have Hh:=Lib.hid h
 have Hk:=Lib.hid hk
 have HA:=Lib.hid hA
 clear h hk hA
 go_wp2_with (first | (go_at_call 28;refine kk.mono ?_;rintro e w' ⟨rfl,rfl⟩) | (go_at_call 27;refine ksd.mono ?_;rintro e w1 ⟨v,ks,rfl,hpw,hmem,hown,hb⟩;obtain ⟨B,cB,rfl,hcB,_,hrd⟩:=hown.shape (n:=ks.length) (by simp [nvs]);have hbl:=hown.lt;clear hown))
 have hBq : ∀ a,B=some a → ¬ ds p q r a.block:=fun a ha hx=>by
  subst ha
  have:=(hbl a.block rfl).1
  have:=Hh.out.lt hx
  omega
 have HBq:=Lib.hid hBq
 clear hBq hbl
 have hD1:DAt w1 p q r n S:=(Hh.out.alloc _).below hb
 have hO1:Oth (ds p q r) w w1:=((Oth.refl _ w).alloc _).trans (Oth.of_below hb _)
 have hdt:Dirty S.had ks:=⟨hpw,hmem⟩
 have HB:=Lib.hid hb
 have HD:=Lib.hid hdt
 have hkl:ks.length≤4096:=by
  have:=rises_len n ks hpw fun k hk=>by
   obtain ⟨y,hy⟩:=Option.isSome_iff_exists.1 ((hmem k).1 hk)
   exact (Hh.out.hadn k y hy).1
  have:=Hh.out.most
  omega
 clear hdt hpw hmem hb c1 kk ksd
 go_loopw [16] (fun i wr=>CrRel w p q r n S keep ks i wr∧RdV wr B ks.length (nvs ks)) (fun i _=>ks.length - (intOf i).toNat)
 case atStart =>
  exact ⟨⟨0,Nat.zero_le _,rfl,by rw [crN_zero];exact hD1,hO1⟩,hrd⟩
 case round =>
  obtain ⟨⟨k,hk,rfl,hDr,hOr⟩,hrr⟩:=hrel
  clear hrd hD1 hO1
  by_cases hlt:k < ks.length
  ·obtain ⟨b,off,x,rfl,hb,hx,hcell⟩:=hrr.cell hlt
   obtain ⟨t,ht,rfl⟩ : ∃ t,ks[k]? = some t∧x = .int .i64 ((t:Nat):Int):=by
    refine ⟨ks[k],List.getElem?_eq_getElem hlt,?_⟩
    simp [nvs,List.getElem?_eq_getElem hlt] at hx
    exact hx.symm
   have htn:t < n:=by
    obtain ⟨y,hy⟩:=Option.isSome_iff_exists.1 ((HD.out.2 t).1 (List.mem_of_getElem? ht))
    exact (Hh.out.hadn t y hy).1
   have hkm:keep.length=m:=by
    have:=Hk.out.len
    simpa [tvs] using this
   have Hcell:=Lib.hid hcell
   have Hrr:=Lib.hid hrr
   have Hx:=Lib.hid hx
   have Ht:=Lib.hid ht
   clear hx hrr ht
   by_cases hkp:keep.getD k false=true
   ·-- it is kept
    have hklt:k < m:=by
     rcases Nat.lt_or_ge k m with q | q
     ·exact q
     ·rw [List.getD_eq_getElem?_getD,List.getElem?_eq_none (by omega)] at hkp
      cases hkp
    have hD2:DAt wr p q r n { S with now:=crN keep S.had ks (k+1) S.now } := by
     rw [crN_keep hkp]
     exact hDr
    obtain ⟨b2,off2,y,rfl,hb2,hy,hcell2⟩:=Hk.out.cell hklt
    rw [tvs_get (by omega),hkp] at hy
    injection hy with hy
    subst hy
    have hc2:wr.cell? ⟨b2,off2+k,none⟩=some (.bool true):=by
     rw [← hcell2]
     exact World.cell?_of_block (hOr.block b2 hb2 (HA.out (by omega) _ rfl))
    have H2:=Lib.hid hD2
    have HO:=Lib.hid hOr
    clear hD2 hOr hDr hcell2 hkp hkm
    go_wp2
    go_roundw
    case rel=>exact ⟨⟨k+1,hlt,by go_num,H2.out,HO.out⟩,Hrr.out⟩
    case measure=>simp [intOf];omega
   ·have hkp:keep.getD k false=false:=by simpa using hkp
    have hl:=hDr.drew.had.look hDr.most htn false
    simp only [Bool.false_eq_true,if_false] at hl
    have hx64:((S.had t).getD zs).length=64:=by
     cases hh:S.had t with
     | none=>exact zs_length
     | some y=>exact (Hh.out.hadn t y hh).2
    have hE:=hDr.drew.setSec htn hx64
    have e1:({ S with now:=fun j=>if j=t then (S.had t).getD zs else crN keep S.had ks k S.now j } : Dk) = { S with now:=crN keep S.had ks (k+1) S.now } := by
     rw [crN_lose hkp Ht.out]
    dsimp only at hE hl
    rw [e1] at hE
    have hg:=grown_setCells q (bvs ((S.had t).getD zs)) (t*64) wr.drew
    have hP:=hOr.drew.trans (Oth.of_grown hg (.inr (.inl rfl)):Oth (ds p q r) _ _)
    have hr2:RdV (wr.drew.setCells q (t*64) (bvs ((S.had t).getD zs))) (some ⟨b,off,none⟩) ks.length (nvs ks) :=
     Hrr.out.drew.grown hg fun a ha hq=>HBq.out a ha (.inr (.inl hq))
    have S1:=Lib.hid (And.intro (hDr.drew.there htn) (And.intro hDr.drew.c0 hDr.drew.c1))
    have S2:=Lib.hid (And.intro (hE.there htn) (And.intro hE.c0 hE.c1))
    have f2:(bvs ((S.had t).getD zs)).length=64:=by rw [bvs_length,hx64]
    have f3:=bvs_one ((S.had t).getD zs)
    have ua:=Tryz.underlying86
    have us:=Tryz.sizeSec
    rw [← f2] at us
    unfold secv at hl
    have HE:=Lib.hid hE
    have HP:=Lib.hid hP
    have HR:=Lib.hid hr2
    have HO:=Lib.hid hOr
    have hlt2:(t:Int) < (n:Int):=by omega
    clear hE hP hr2 hOr e1 hg hx64 hkm hDr
    generalize bvs ((S.had t).getD zs)=cs at hl S1 S2 f2 f3 us HE HP HR
    by_cases hkm2:k < m
    ·obtain ⟨b2,off2,y,rfl,hb2,hy,hcell2⟩:=Hk.out.cell hkm2
     have hkm:keep.length=m:=by
      have:=Hk.out.len
      simpa [tvs] using this
     rw [tvs_get (by omega),hkp] at hy
     injection hy with hy
     subst hy
     have hc2:wr.cell? ⟨b2,off2+k,none⟩=some (.bool false):=by
      rw [← hcell2]
      exact World.cell?_of_block (HO.out.block b2 hb2 (HA.out (by omega) _ rfl))
     clear hcell2 hkp hkm
     go_wp2
     go_region_held (fun w'=>w'.there q (t*64) 64∧w'.cell? ⟨p,0,none⟩=some (.slice (some ⟨q,0,none⟩) n n)∧w'.cell? ⟨p,1,none⟩=some (.map (some r))) (first | exact S1.out | exact S2.out) (fail)
     all_goals (
      go_wp2
      go_roundw
      case rel=>exact ⟨⟨k+1,hlt,by go_num,HE.out,HP.out⟩,HR.out⟩
      case measure=>simp [intOf];omega)
    ·clear hkp
     go_wp2
     go_region_held (fun w'=>w'.there q (t*64) 64∧w'.cell? ⟨p,0,none⟩=some (.slice (some ⟨q,0,none⟩) n n)∧w'.cell? ⟨p,1,none⟩=some (.map (some r))) (first | exact S1.out | exact S2.out) (fail)
     all_goals (
      go_wp2
      go_roundw
      case rel=>exact ⟨⟨k+1,hlt,by go_num,HE.out,HP.out⟩,HR.out⟩
      case measure=>simp [intOf];omega)
  ·obtain rfl:k=ks.length:=by omega
   have hc1:=hDr.c1
   obtain ⟨w2,k1,hH,hg⟩:=hDr.had.clear 0
   have hD2:=hDr.setHad hg hH
   have c2:=hD2.c2
   have f2:=hD2.ptr.free 2
   have hD3:=hD2.setDown false
   have c3:=hD3.c3
   have f3:=hD3.ptr.free 3
   have hD4:=hD3.setLeft 0 (by omega)
   have c3':=hD2.c3
   have f3':=hD2.ptr.free 3
   have hP:=((hOr.trans (Oth.of_grown hg (.inr (.inr rfl)))).set (X:=ds p q r) (.inl rfl) 2 (.bool false)).set (.inl rfl) 3 (.int .i64 ((0:Nat):Int))
   have H4:=Lib.hid hD4
   have HP:=Lib.hid hP
   clear hD4 hP hD3 hD2 hH hg hOr hDr hrr
   dsimp only at c2 c3 c3'
   go_wp2
   go_ret
   exact ⟨ks,HD.out,rfl,H4.out,HP.out⟩
end
end Go.Proofs.YtcodpnbemdflcaaGreatDoor

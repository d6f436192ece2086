/-
  A disk of sectors in memory: a pointer's struct, sectors in a row, what a sector had in a map; what calls leave alone. Plain lemmas, no condition of their own.
  Plain mathematics of a disk of sectors: what each call makes of it. No program, no condition.
  Laws for a walk: an allocation, a load, a store whose run is known. Plain lemmas over any program.
  Package pdisk: place, did, remember, Size, Down, Flush, Stop: contracts at a disk.
  Package pdisk: Write, Read, New: contracts at a disk.
-/
import Derived.Test.YtcodpnbemdflcaaGreatDoorTg1
import Derived.Deep.MidRow
import Derived.Maps.OwnSet
import Derived.Maps.Ext
import Derived.Lib.SlKeysI
import Derived.Deep.WholeRow
import Derived.RegionTactic
import Derived.StillTailTactics
import Derived.Deep.RegionHeld
import Derived.Deep.CutBlock
import Derived.Deep.DeepCutAuto
namespace Go.Proofs.YtcodpnbemdflcaaGreatDoor
open Go.RowKit Go.Maps Go.ChangeMaps Go.MapKept Go.WideShapes
structure Oth (X:Nat→Prop) (w w':World):Prop where
 os:w'.os=w.os
 tape:w'.tape=w.tape
 output:w'.output=w.output
 size:w.heap.size≤w'.heap.size
 block : ∀ k,k < w.heap.size → ¬ X k→w'.heap[k]? = w.heap[k]?
section
variable {X Y:Nat→Prop} {a b c w w':World}
theorem Oth.refl (X:Nat→Prop) (w:World):Oth X w w:=⟨rfl,rfl,rfl,Nat.le_refl _,fun _ _ _=>rfl⟩
theorem Oth.trans (h:Oth X a b) (k:Oth X b c):Oth X a c :=
 ⟨k.os.trans h.os,k.tape.trans h.tape,k.output.trans h.output,Nat.le_trans h.size k.size,fun i hi hx=>(k.block i (Nat.lt_of_lt_of_le hi h.size) hx).trans (h.block i hi hx)⟩
theorem Oth.mono (h:Oth X w w') (hXY : ∀ k,X k→Y k):Oth Y w w':=⟨h.os,h.tape,h.output,h.size,fun k hk hy=>h.block k hk fun hx=>hy (hXY k hx)⟩
theorem Oth.of_below (h:Below w.heap.size w w') (X:Nat→Prop):Oth X w w':=⟨h.os,h.tape,h.output,h.size,fun k hk _=>h.block k hk⟩
theorem Oth.of_grown {r:Nat} (h:w.grownBy w' (some r)) (hr:X r):Oth X w w':=⟨h.os,h.tape,h.output,h.size,fun k hk hx=>h.block k hk (by simp;rintro rfl;exact hx hr)⟩
theorem Oth.alloc (h:Oth X w w') (o:Obj):Oth X w (w'.alloc o):=h.trans (Oth.of_below ((Below.refl _ _).alloc (Nat.le_refl _) o) X)
theorem Oth.drew (h:Oth X w w'):Oth X w w'.drew:=⟨h.os,h.tape,h.output,h.size,h.block⟩
theorem Oth.set (h:Oth X w w') {g:Nat} (hg:X g) (j:Nat) (v:Value):Oth X w (w'.setCell ⟨g,j,none⟩ v):=h.trans (Oth.of_grown (grown_set w' g j v) hg)
theorem Oth.below (h:Oth X w w') {B:Nat} (hX : ∀ k,X k→B≤k) (hB:B≤w.heap.size):Below B w w' :=
 ⟨h.os,h.tape,h.output,h.size,fun k hk=>h.block k (Nat.lt_of_lt_of_le hk hB) fun hx=>by have:=hX k hx;omega⟩
end
theorem grown_setCells (g:Nat) : ∀ (vs:List Value) (o:Nat) (w:World),w.grownBy (w.setCells g o vs) (some g)
 | [],_,w=>grown_refl w _
 | v :: r,o,w=>grown_trans (grown_set w g o v) (grown_setCells g r (o+1) _)
def zs:List UInt8:=List.replicate 64 0
theorem zs_length:zs.length=64:=by simp [zs]
def secv (x:List UInt8):Value := .agg (bvs x).toArray
theorem secv_inj {x y:List UInt8} (h:secv x=secv y):x=y:=by
 have h1:bvs x=bvs y:=by simpa [secv] using h
 have:=congrArg (fun l:List Value=>l.map fun v=>match v with | .int _ n=>UInt8.ofNat n.toNat | _=>0) h1
 simpa [bvs,bv,Function.comp_def] using this
def full64 (b:List UInt8):List UInt8:=b++List.replicate (64 - b.length) 0
theorem full_length {b:List UInt8} (h:b.length≤64):(full64 b).length=64:=by simp [full64];omega
theorem Tryz.infoSec:(Tryz.prog.info? 86).map (fun i=>(i.zero,i.size,i.bytes))=some (some (secv zs),64,64):=by kernel_rfl
theorem Tryz.sizeSec:(Tryz.prog.info? 86).map (·.size)=some 64:=by kernel_rfl
theorem zero_sec (w:World):(zeroValue 86).run Tryz.prog w = .ok (secv zs) w:=by
 obtain ⟨i0,hi,hz0,_,_⟩:=info_parts Tryz.infoSec
 simp [zeroValue,typeInfo,hi,hz0]
theorem load_sec {w:World} {b o:Nat} {x:List UInt8} (h:w.rangeAt b o (bvs x)) (hx:x.length=64) :
  (Instr.loadAt 86 (.pointer (some ⟨b,o,none⟩))).run Tryz.prog w = .ok (secv x) w :=
 run_loadAt_mid w b o 86 (bvs x) _ h Tryz.underlying86 rfl (by rw [bvs_length,hx];exact Tryz.sizeSec)
def Rs (v:Value):Option (DataW Value × List MemPlace):=some (.held v, [])
theorem keyedI:Keyed Tryz.prog 3:=int_keyed Tryz.underlying3
theorem wf_nat {k n:Nat} (hk:k < n) (hn:n≤4096):(Lit.int .i64 (k:Int)).wf=true:=by
 simp [Lit.wf,IntKind.min,IntKind.max,IntKind.signed,IntKind.bits]
 omega
theorem key_nat {k n:Nat} (hk:k < n) (hn:n≤4096):keyOf Tryz.prog 3 (.int .i64 (k:Int))=some (.int .i64 (k:Int)):=keyOf_int_mk Tryz.underlying3 (wf_nat hk hn)
theorem isKey_int (k:Int):WideAt.IsKeyLit (.int .i64 k):=trivial
def HadAt (w:World) (r n:Nat) (had:Nat→Option (List UInt8)):Prop :=
 ∃ D:DataW Value,w.ownsMap Tryz.prog 3 Rs r n D∧(∀ k:Nat,Maps.has D (.int .i64 (k:Int))=(had k).isSome) ∧
  (∀ (k:Nat) (x:List UInt8),had k=some x → ∀ z,D.atKey (.int .i64 (k:Int)) z = .held (secv x))∧(∀ k x,had k=some x→k < n∧x.length=64) ∧
  ∀ x:Int,Maps.has D (.int .i64 x)=true → ∃ k:Nat,x=(k:Int)
theorem nodup_len : ∀ (n:Nat) (l:List Int),l.Nodup→(∀ x ∈ l,0≤x∧x < (n:Int))→l.length≤n
 | 0,l,_,h=>by
  cases l with
  | nil=>simp
  | cons a r=>have:=h a (by simp);omega
 | n+1,l,hd,h=>by
  have h1:=nodup_len n (l.filter fun x=>decide (x≠(n:Int))) (hd.filter _) fun x hx=>by
   obtain ⟨hx1,hx2⟩:=List.mem_filter.1 hx
   have:=h x hx1
   simp at hx2
   omega
  have h2:(l.filter fun x => ! decide (x≠(n:Int))).length≤1:=by
   have hd2:=hd.filter fun x => ! decide (x≠(n:Int))
   have hm : ∀ x ∈ l.filter (fun x => ! decide (x≠(n:Int))),x=(n:Int):=fun x hx=>by
    have:=(List.mem_filter.1 hx).2
    simpa using this
   generalize l.filter (fun x => ! decide (x≠(n:Int)))=m at hd2 hm
   match m with
   | []=>simp
   | [_]=>simp
   | a :: b :: r =>
    have e1:=hm a (by simp)
    have e2:=hm b (by simp)
    rw [e1,e2] at hd2
    simp at hd2
  have h3 : ∀ m:List Int,m.length=(m.filter fun x=>decide (x≠(n:Int))).length+(m.filter fun x => ! decide (x≠(n:Int))).length:=fun m=>by
   induction m with
   | nil=>rfl
   | cons a r ih=>by_cases e:a=(n:Int) <;> simp [e] at ih ⊢ <;> omega
  have:=h3 l
  omega
theorem keys_nodup {es:List (Lit × DataW Value)} (hp:es.Pairwise (fun p q=>p.1≠q.1)) (hk : ∀ p ∈ es, ∃ x,p.1 = .int .i64 x):(intKeys (.map es)).Nodup:=by
 show (es.map fun p=>intOf p.1).Nodup
 refine List.pairwise_map.2 (hp.imp_of_mem fun {p q} hp' hq' hne e=>hne ?_)
 obtain ⟨a,ha⟩:=hk p hp'
 obtain ⟨b,hb⟩:=hk q hq'
 rw [ha,hb] at e ⊢
 exact congrArg _ e
theorem mem_keys {es:List (Lit × DataW Value)} (hk : ∀ p ∈ es, ∃ x,p.1 = .int .i64 x) (x:Int):x ∈ intKeys (.map es) ↔ has (.map es) (.int .i64 x)=true:=by
 rw [has_eq,List.any_eq_true]
 show x ∈ es.map (fun p=>intOf p.1) ↔ _
 rw [List.mem_map]
 constructor
 ·rintro ⟨p,hp',rfl⟩
  obtain ⟨a,ha⟩:=hk p hp'
  exact ⟨p,hp',by rw [ha];simp [Lit.sameKey,intOf]⟩
 ·rintro ⟨p,hp',hs⟩
  obtain ⟨a,ha⟩:=hk p hp'
  rw [ha] at hs
  exact ⟨p,hp',by rw [ha];simpa [Lit.sameKey,intOf] using hs⟩
theorem ownsMap_ints {w:World} {r m:Nat} {D:DataW Value} (h:w.ownsMap Tryz.prog 3 Rs r m D) : ∃ es,D = .map es∧es.Pairwise (fun p q=>p.1≠q.1) ∧ ∀ p ∈ es, ∃ x,p.1 = .int .i64 x:=by
 obtain ⟨es,clock,_,F,_,rfl⟩:=h
 refine ⟨_,rfl,((WideShapes.sorted_perm _).pairwise_iff (fun {_ _} hne=>Ne.symm hne)).2 (Maps.fit_apart keyedI F),fun p hp => ?_⟩
 obtain ⟨v,hv⟩:=Maps.fit_keys F p (mem_sorted.1 hp)
 obtain ⟨x,_,hx,_⟩:=Maps.keyOf_i64 Tryz.underlying3 hv
 exact ⟨x,hx⟩
theorem ownsMap_tight {w:World} {r m:Nat} {D:DataW Value} (h:w.ownsMap Tryz.prog 3 Rs r m D):w.ownsMap Tryz.prog 3 Rs r (Maps.size D) D:=by
 obtain ⟨es,clock,hb,F,_,rfl⟩:=h
 exact ⟨es,clock,hb,F,by simp [Maps.size,length_sorted],rfl⟩
section
variable {w w':World} {r n:Nat} {had:Nat→Option (List UInt8)}
theorem HadAt.keep (h:HadAt w r n had) (hk:w'.heap[r]? = w.heap[r]?):HadAt w' r n had:=by
 obtain ⟨D,⟨es,clock,hb,F,hs,hD⟩,h1⟩:=h
 exact ⟨D,⟨es,clock,hk.trans hb,F,hs,hD⟩,h1⟩
theorem HadAt.lt (h:HadAt w r n had):r < w.heap.size:=by
 obtain ⟨D,h,_⟩:=h
 exact h.lt
theorem HadAt.look (h:HadAt w r n had) (hn:n≤4096) {k:Nat} (hk:k < n) (c:Bool) :
  (Instr.lookup 84 (.map (some r)) (.int .i64 (k:Int)) c).run Tryz.prog w = .ok (if c then .tuple #[secv ((had k).getD zs), .bool (had k).isSome] else secv ((had k).getD zs)) w:=by
 obtain ⟨D,hown,hhas,hat,hlt,_⟩:=h
 have hv : ∀ (v:Value) (ps:List MemPlace),Rs v=some (D.atKey (.int .i64 (k:Int)) (.held (secv zs)),ps)→v=secv ((had k).getD zs):=fun v ps hv=>by
  have e:DataW.held v=D.atKey (.int .i64 (k:Int)) (.held (secv zs)):=by
   have:=Option.some.inj hv
   exact congrArg Prod.fst this
  cases hh:had k with
  | none =>
   have hf:Maps.has D (.int .i64 (k:Int))=false:=by rw [hhas,hh];rfl
   have:D.atKey (.int .i64 (k:Int)) (.held (secv zs)) = .held (secv zs):=by
    obtain ⟨es,rfl,_⟩:=ownsMap_ints hown
    have hfind:es.find? (fun p=>p.1.sameKey (.int .i64 (k:Int)))=none:=by
     rw [List.find?_eq_none]
     intro p hp hs
     rw [has_eq] at hf
     have:=List.any_eq_false.1 hf p hp
     exact this hs
    simp [DataW.atKey,hfind]
   rw [this] at e
   simpa using e
  | some x =>
   rw [hat k x hh] at e
   simpa using e
 cases c
 ·obtain ⟨v,ps,hrun,hR⟩:=hown.lookup keyedI Tryz.underlying84 (zero_sec w) (zd := .held (secv zs)) (zp := []) rfl (key_nat hk hn)
  rw [hrun,hv v ps hR]
  rfl
 ·obtain ⟨v,ps,hrun,hR⟩:=hown.look_ok keyedI Tryz.underlying84 (zero_sec w) (zd := .held (secv zs)) (zp := []) rfl (key_nat hk hn)
  rw [hrun,hv v ps hR,hhas]
  rfl
theorem HadAt.size (h:HadAt w r n had) : ∃ D:DataW Value,w.ownsMap Tryz.prog 3 Rs r n D∧Maps.size D≤n:=by
 obtain ⟨D,hown,_⟩:=h
 exact ⟨D,hown,hown.size_le⟩
set_option maxRecDepth 20000 in
theorem HadAt.put (h:HadAt w r n had) (hn:n≤4096) {k:Nat} (hk:k < n) {x:List UInt8} (hx:x.length=64) :
  ∃ w',(Instr.mapUpdate 84 (.map (some r)) (.int .i64 (k:Int)) (secv x)).run Tryz.prog w = .ok () w'∧HadAt w' r n (fun j=>if j=k then some x else had j)∧w.grownBy w' (some r):=by
 obtain ⟨D,hown,hhas,hat,hlt,hkey⟩:=h
 obtain ⟨w',hrun,hown',hg⟩:=hown.update keyedI Tryz.underlying84 (by unfold maxLen;omega) (key_nat hk hn) (val:=secv x) (d := .held (secv x)) (ps := []) rfl
 have hne : ∀ j:Nat,j≠k→(Lit.int .i64 (j:Int)) ≠ .int .i64 (k:Int):=fun j hj e=>hj (by simp only [Lit.int.injEq,true_and] at e;omega)
 have hhas' : ∀ j:Nat,Maps.has (D.put (.int .i64 (k:Int)) (.held (secv x))) (.int .i64 (j:Int))=(if j=k then some x else had j).isSome:=fun j=>by
  by_cases hj:j=k
  ·subst hj
   rw [has_put_same hown.isMap (isKey_int _)]
   simp
  ·rw [has_put_other (hne j hj),if_neg hj,hhas]
 have hlt' : ∀ j y,(if j=k then some x else had j)=some y→j < n∧y.length=64:=fun j y hy=>by
  split at hy
  ·rename_i hj
   injection hy with hy
   subst hy
   exact ⟨hj ▸ hk,hx⟩
  ·exact hlt j y hy
 have hkey' : ∀ z:Int,Maps.has (D.put (.int .i64 (k:Int)) (.held (secv x))) (.int .i64 z)=true → ∃ j:Nat,z=(j:Int):=fun z hz=>by
  by_cases e:(Lit.int .i64 z) = .int .i64 (k:Int)
  ·exact ⟨k,by simpa using e⟩
  ·rw [has_put_other e] at hz
   exact hkey z hz
 refine ⟨w',hrun,⟨_,(ownsMap_tight hown').mono ?_,hhas',fun j y hy z => ?_,hlt',hkey'⟩,hg⟩
 ·obtain ⟨es,hD,hp,hi⟩:=ownsMap_ints hown'
  rw [hD]
  have:=nodup_len n (intKeys (.map es)) (keys_nodup hp hi) fun y hy=>by
   have h1:=(mem_keys hi y).1 hy
   rw [← hD] at h1
   obtain ⟨j,rfl⟩:=hkey' y h1
   rw [hhas'] at h1
   obtain ⟨v,hv⟩:=Option.isSome_iff_exists.1 h1
   have:=(hlt' j v hv).1
   omega
  simpa [Maps.size,intKeys] using this
 ·dsimp only at hy
  split at hy
  ·rename_i hj
   injection hy with hy
   subst hy
   subst hj
   exact atKey_put_same hown.isMap (isKey_int _) _ _
  ·rename_i hj
   rw [atKey_put_other (hne j hj)]
   exact hat j y hy z
theorem HadAt.clear (h:HadAt w r n had) (ty:TypeId) :
  ∃ w',(Builtin.clear_ #[84] ty #[.map (some r)]).run Tryz.prog w = .ok (.tuple #[]) w'∧HadAt w' r n (fun _=>none)∧w.grownBy w' (some r):=by
 obtain ⟨D,⟨es,clock,hb,F,hs,hD⟩,_⟩:=h
 refine ⟨ChangeMaps.setBlock w r (.map #[] clock),?_,⟨.map [],⟨#[],clock,heap_setBlock_same hb _,⟨by simp,stamped_empty clock,by simp⟩,by simp,rfl⟩,fun k=>rfl,by simp,by simp,fun x hx=>by simp [Maps.has] at hx⟩,
  ⟨rfl,rfl,rfl,by simp [ChangeMaps.setBlock],fun i _ hi=>heap_setBlock_other hb _ (fun e=>hi (by rw [e]))⟩⟩
 simp [Builtin.clear_,run_underlying Tryz.underlying84,MapKept.run_getObj_map hb,MapKept.run_setObj_map _ hb,Result.andThen,ChangeMaps.setBlock]
theorem hadAt_made (w:World) (n:Nat):HadAt (w.alloc (.map #[] 0)) w.heap.size n (fun _=>none) :=
 ⟨.map [],(World.ownsMap_made w _ _ _).mono (Nat.zero_le _),fun k=>rfl,by simp,by simp,fun x hx=>by simp [Maps.has] at hx⟩
end
structure Dk where
 now:Nat→List UInt8
 had:Nat→Option (List UInt8)
 down:Bool
 left:Nat
def ds (p q r k:Nat):Prop:=k=p∨k=q∨k=r
def dcs (q r n:Nat) (S:Dk):List Value := [.slice (some ⟨q,0,none⟩) n n, .map (some r), .bool S.down, .int .i64 (S.left:Int)]
structure DAt (w:World) (p q r n:Nat) (S:Dk):Prop where
 ptr:Whole w p 89 (dcs q r n S)
 sec : ∀ i,i < n→w.rangeAt q (i*64) (bvs (S.now i))
 len : ∀ i,i < n→(S.now i).length=64
 free:w.there q 0 (n*64)
 qlt:q < w.heap.size
 had:HadAt w r n S.had
 hadn : ∀ k x,S.had k=some x→k < n∧x.length=64
 pq:p≠q
 pr:p≠r
 qr:q≠r
 pos:0 < n
 most:n≤4096
 left:S.left≤1000000
section
variable {w w':World} {p q r n:Nat} {S:Dk}
theorem DAt.keep (h:DAt w p q r n S) (hs:w.heap.size≤w'.heap.size) (hk : ∀ k,ds p q r k→w'.heap[k]? = w.heap[k]?):DAt w' p q r n S where
 ptr:=h.ptr.keep (hk p (.inl rfl))
 sec i hi j v hv:=(World.cell?_of_block (hk q (.inr (.inl rfl)))).trans (h.sec i hi j v hv)
 len:=h.len
 free j hj:=by
  have e:w'.heap[q]? = w.heap[q]? := hk q (.inr (.inl rfl))
  rw [World.cell?_of_block (a:=⟨q,0+j,none⟩) e,World.frozen?_of_block (a:=⟨q,0+j,none⟩) e]
  exact h.free j hj
 qlt:=Nat.lt_of_lt_of_le h.qlt hs
 had:=h.had.keep (hk r (.inr (.inr rfl)))
 hadn:=h.hadn
 pq:=h.pq
 pr:=h.pr
 qr:=h.qr
 pos:=h.pos
 most:=h.most
 left:=h.left
theorem DAt.lt (h:DAt w p q r n S) {k:Nat} (hk:ds p q r k):k < w.heap.size:=by
 rcases hk with rfl | rfl | rfl
 ·exact h.ptr.lt
 ·exact h.qlt
 ·exact h.had.lt
theorem DAt.oth {X:Nat→Prop} (h:DAt w p q r n S) (k:Oth X w w') (hX : ∀ j,ds p q r j → ¬ X j):DAt w' p q r n S:=h.keep k.size fun j hj=>k.block j (h.lt hj) (hX j hj)
theorem DAt.below (h:DAt w p q r n S) (k:Below w.heap.size w w'):DAt w' p q r n S:=h.keep k.size fun j hj=>k.block j (h.lt hj)
theorem DAt.alloc (h:DAt w p q r n S) (o:Obj):DAt (w.alloc o) p q r n S:=h.below ((Below.refl _ _).alloc (Nat.le_refl _) o)
theorem DAt.drew (h:DAt w p q r n S):DAt w.drew p q r n S:=h.keep (Nat.le_refl _) fun _ _=>rfl
theorem DAt.there (h:DAt w p q r n S) {i:Nat} (hi:i < n):w.there q (i*64) 64:=fun j hj=>by
 have:=h.free (i*64+j) (by omega)
 rw [Nat.zero_add] at this
 exact this
theorem DAt.setDown (h:DAt w p q r n S) (d:Bool):DAt (w.setCell ⟨p,2,none⟩ (.bool d)) p q r n { S with down:=d } := by
  have hg := grown_set w p 2 (.bool d)
  exact { ptr := h.ptr.set 2 (.bool d), sec := fun i hi j v hv => (World.cell?_of_block (hg.block q h.qlt (by simpa using h.pq.symm))).trans (h.sec i hi j v hv), len := h.len,
          free := fun j hj => by
            have e := hg.block q h.qlt (by simpa using h.pq.symm)
            rw [World.cell?_of_block (a := ⟨q, 0 + j, none⟩) e, World.frozen?_of_block (a := ⟨q, 0 + j, none⟩) e]
            exact h.free j hj
          qlt := Nat.lt_of_lt_of_le h.qlt hg.size, had := h.had.keep (hg.block r h.had.lt (by simpa using h.pr.symm)), hadn := h.hadn, pq := h.pq, pr := h.pr, qr := h.qr, pos := h.pos, most := h.most, left := h.left }
theorem DAt.setLeft (h:DAt w p q r n S) (m:Nat) (hm:m≤1000000):DAt (w.setCell ⟨p,3,none⟩ (.int .i64 (m:Int))) p q r n { S with left:=m } := by
  have hg := grown_set w p 3 (.int .i64 (m : Int))
  exact { ptr := h.ptr.set 3 (.int .i64 (m : Int)), sec := fun i hi j v hv => (World.cell?_of_block (hg.block q h.qlt (by simpa using h.pq.symm))).trans (h.sec i hi j v hv), len := h.len,
          free := fun j hj => by
            have e := hg.block q h.qlt (by simpa using h.pq.symm)
            rw [World.cell?_of_block (a := ⟨q, 0 + j, none⟩) e, World.frozen?_of_block (a := ⟨q, 0 + j, none⟩) e]
            exact h.free j hj
          qlt := Nat.lt_of_lt_of_le h.qlt hg.size, had := h.had.keep (hg.block r h.had.lt (by simpa using h.pr.symm)), hadn := h.hadn, pq := h.pq, pr := h.pr, qr := h.qr, pos := h.pos, most := h.most, left := hm }
theorem DAt.setSec (h:DAt w p q r n S) {i:Nat} (hi:i < n) {x:List UInt8} (hx:x.length=64):DAt (w.setCells q (i*64) (bvs x)) p q r n { S with now:=fun j=>if j=i then x else S.now j } := by
  have hg := grown_setCells q (bvs x) (i * 64) w
  have hl : (bvs x).length = 64 := by rw [bvs_length, hx]
  exact { ptr := h.ptr.keep (hg.block p h.ptr.lt (by simpa using h.pq))
          sec := fun j hj => by
            dsimp only
            by_cases e : j = i
            · subst e
              rw [if_pos rfl]
              exact World.rangeAt_setCells_same w q (j * 64) (bvs x) (by rw [hl]; exact h.there hi)
            · rw [if_neg e]
              exact World.rangeAt_setCells_apart (h.sec j hj) q (i * 64) (bvs x) (by rw [bvs_length, h.len j hj, hl]; omega)
          len := fun j hj => by
            dsimp only
            split
            · exact hx
            · exact h.len j hj
          free := World.there_setCells h.free q (i * 64) (bvs x)
          qlt := Nat.lt_of_lt_of_le h.qlt hg.size, had := h.had.keep (hg.block r h.had.lt (by simpa using h.qr.symm)), hadn := h.hadn, pq := h.pq, pr := h.pr, qr := h.qr, pos := h.pos, most := h.most, left := h.left }
theorem DAt.setHad (h:DAt w p q r n S) {had:Nat→Option (List UInt8)} (hg:w.grownBy w' (some r)) (hH:HadAt w' r n had):DAt w' p q r n { S with had:=had } :=
  { ptr := h.ptr.keep (hg.block p h.ptr.lt (by simpa using h.pr)), sec := fun i hi j v hv => (World.cell?_of_block (hg.block q h.qlt (by simpa using h.qr))).trans (h.sec i hi j v hv), len := h.len,
    free := fun j hj => by
      have e := hg.block q h.qlt (by simpa using h.qr)
      rw [World.cell?_of_block (a := ⟨q, 0 + j, none⟩) e, World.frozen?_of_block (a := ⟨q, 0 + j, none⟩) e]
      exact h.free j hj
    qlt := Nat.lt_of_lt_of_le h.qlt hg.size, had := hH, hadn := by obtain ⟨_, _, _, _, h4, _⟩ := hH; exact h4, pq := h.pq, pr := h.pr, qr := h.qr, pos := h.pos, most := h.most, left := h.left }
theorem DAt.c0 (h:DAt w p q r n S):w.cell? ⟨p,0,none⟩=some (.slice (some ⟨q,0,none⟩) n n):=by rw [h.ptr.cell 0];rfl
theorem DAt.c1 (h:DAt w p q r n S):w.cell? ⟨p,1,none⟩=some (.map (some r)):=by rw [h.ptr.cell 1];rfl
theorem DAt.c2 (h:DAt w p q r n S):w.cell? ⟨p,2,none⟩=some (.bool S.down):=by rw [h.ptr.cell 2];rfl
theorem DAt.c3 (h:DAt w p q r n S):w.cell? ⟨p,3,none⟩=some (.int .i64 (S.left:Int)):=by rw [h.ptr.cell 3];rfl
end
end Go.Proofs.YtcodpnbemdflcaaGreatDoor
namespace Go.Proofs.YtcodpnbemdflcaaGreatDoor
def didS (S:Dk):Dk:=if 0 < S.left then { S with left:=S.left - 1,down:=decide (S.left - 1=0) } else S
def remH (S:Dk) (k:Nat):Nat→Option (List UInt8):=fun j=>if j=k then some ((S.had k).getD (S.now k)) else S.had j
def putS (S:Dk) (k:Nat) (l:List UInt8):Dk := { S with now:=fun j=>if j=k then full64 l else S.now j,had:=remH S k }
def wrS (n:Nat) (S:Dk) (a:Int) (l:List UInt8):Dk:=if S.down=false∧(0≤a∧a < n)∧l.length≤64 then didS (putS S a.toNat l) else S
def wrE (n:Nat) (S:Dk) (a:Int) (l:List UInt8):Int:=if S.down then 70 else if ¬ (0≤a∧a < n) then 71 else if 64 < l.length then 1 else 0
def flS (S:Dk):Dk:=if S.down then S else didS { S with had:=fun _=>none }
def flE (S:Dk):Int:=if S.down then 70 else 0
def lost (keep:List Bool) (ks:List Nat) (i j:Nat):Bool:=(List.range i).any fun t=>decide (ks[t]? = some j) && !keep.getD t false
def crN (keep:List Bool) (had:Nat→Option (List UInt8)) (ks:List Nat) (i:Nat) (now:Nat→List UInt8):Nat→List UInt8:=fun j=>if lost keep ks i j then (had j).getD zs else now j
def crS (S:Dk) (keep:List Bool) (ks:List Nat):Dk := { now:=crN keep S.had ks ks.length S.now,had:=fun _=>none,down:=false,left:=0 }
def Dirty (had:Nat→Option (List UInt8)) (ks:List Nat):Prop:=ks.Pairwise (· < ·) ∧ ∀ k,k ∈ ks ↔ (had k).isSome=true
theorem lost_zero (keep:List Bool) (ks:List Nat) (j:Nat):lost keep ks 0 j=false:=rfl
theorem lost_succ (keep:List Bool) (ks:List Nat) (i j:Nat):lost keep ks (i+1) j=(lost keep ks i j || (decide (ks[i]? = some j) && !keep.getD i false)):=by
 simp [lost,List.range_succ]
theorem crN_zero (keep:List Bool) (had:Nat→Option (List UInt8)) (ks:List Nat) (now:Nat→List UInt8):crN keep had ks 0 now=now:=by
 funext j
 simp [crN,lost_zero]
theorem crN_keep {keep:List Bool} {had:Nat→Option (List UInt8)} {ks:List Nat} {i:Nat} {now:Nat→List UInt8} (h:keep.getD i false=true):crN keep had ks (i+1) now=crN keep had ks i now:=by
 funext j
 unfold crN
 rw [lost_succ,h]
 simp
theorem crN_lose {keep:List Bool} {had:Nat→Option (List UInt8)} {ks:List Nat} {i k:Nat} {now:Nat→List UInt8} (h:keep.getD i false=false) (hk:ks[i]? = some k) :
  crN keep had ks (i+1) now=fun j=>if j=k then (had k).getD zs else crN keep had ks i now j:=by
 funext j
 unfold crN
 rw [lost_succ,h,hk]
 by_cases e:j=k
 ·subst e
  simp
 ·have : ¬ k=j:=fun h=>e h.symm
  simp [e,this]
theorem crN_clean {keep:List Bool} {had:Nat→Option (List UInt8)} {ks:List Nat} (hk:Dirty had ks) (i:Nat) (now:Nat→List UInt8) {j:Nat} (hj:had j=none):crN keep had ks i now j=now j:=by
 unfold crN
 have:lost keep ks i j=false:=by
  unfold lost
  rw [List.any_eq_false]
  intro t _ h
  simp at h
  have:=(hk.2 j).1 (List.mem_of_getElem? h.1)
  rw [hj] at this
  cases this
 rw [this]
 rfl
theorem rises_len : ∀ (n:Nat) (ks:List Nat),ks.Pairwise (· < ·)→(∀ k ∈ ks,k < n)→ks.length≤n:=fun n ks hp hk=>by
 have:=nodup_len n (ks.map fun k:Nat=>(k:Int)) (by
  refine List.pairwise_map.2 (hp.imp fun {a b} h => ?_)
  omega) (fun x hx=>by
  obtain ⟨k,hk',rfl⟩:=List.mem_map.1 hx
  have:=hk k hk'
  omega)
 simpa using this
end Go.Proofs.YtcodpnbemdflcaaGreatDoor
namespace Go.Proofs.YtcodpnbemdflcaaGreatDoor
open Go.RowKit
section
variable {P:Program} {w w':World} {ops:Array Oper} {rest:List Oper} {o:Oper} {a:Act} {Q:Exit→Act→World→Prop} {v x:Value} {t:TypeId}
theorem wpList_alloc_run (hrun:(Instr.alloc t true (.tuple #[])).run P w = .ok v w') (hgd:o.guard=none) (ho:o.op = .alloc t)
  (h:wpList P ops Q rest (a.put o.dst v) w'):wpList P ops Q (o :: rest) a w:=by
 refine wpList_plain hgd fun K hK => ?_
 unfold Oper.wp execOp
 simp only [ho,Sem.run_bind,Sem.run_pure,Result.andThen_ok,hrun]
 exact hK _ _ h
theorem wpList_load_run (hrun:(Instr.loadAt t x).run P w = .ok v w') (hgd:o.guard=none) (p:Operand) (ho:o.op = .load t p) (hx:a.eval p=x)
  (h:wpList P ops Q rest (a.put o.dst v) w'):wpList P ops Q (o :: rest) a w:=by
 refine wpList_plain hgd fun K hK => ?_
 unfold Oper.wp execOp
 simp only [ho,hx,Sem.run_bind,Sem.run_pure,Result.andThen_ok,hrun]
 exact hK _ _ h
theorem wpList_store_run (hrun:(Instr.storeAt t x v).run P w = .ok () w') (hgd:o.guard=none) (p y:Operand) (ho:o.op = .store t p y) (hx:a.eval p=x) (hy:a.eval y=v)
  (h:wpList P ops Q rest (a.put o.dst undef) w'):wpList P ops Q (o :: rest) a w:=by
 refine wpList_plain hgd fun K hK => ?_
 unfold Oper.wp execOp
 simp only [ho,hx,hy,Sem.run_bind,Sem.run_pure,Result.andThen_ok,hrun]
 exact hK _ _ h
end
theorem step_append_run7 {P:Program} {ops:Array Oper} {o:Oper} {a:Act} {w w':World} {K:Act→World→Prop} {Q:Exit→Act→World→Prop} {E:Prop} {v y v':Value} {t u ty:TypeId}
  (hrun:(Builtin.append_ #[t,u] ty #[v,y]).run P w = .ok v' w') (hgd:o.guard=none) (s x:Operand)
  (ho:o.op = .call { callee := .builtin .append,args := #[s,x],argTypes := #[t,u] }) (hty:o.type=ty) (hs:a.eval s=v) (hx:a.eval x=y)
  (hK:K (a.put o.dst v') w'):if Region.wanted o (yielded ops a.tmps)=true then Oper.wp P o a w K Q else E:=by
 have hw:Region.wanted o (yielded ops a.tmps)=true:=by simp [Region.wanted,hgd]
 rw [if_pos hw]
 subst hty
 unfold Oper.wp execOp
 simp only [ho,resolve,invoke,builtin,Sem.run_bind,Sem.run_pure,Result.andThen_ok,List.map_toArray,List.map_cons,List.map_nil,hs,hx,hrun]
 exact hK
def sob (x:List UInt8):Obj := .cells (bvs x).toArray 86
theorem alloc_sec (w:World):(Instr.alloc 86 true (.tuple #[])).run Tryz.prog w = .ok (.pointer (some ⟨w.heap.size,0,none⟩)) (w.alloc (sob zs)):=by
 have h:(newVar 86 (secv zs)).run Tryz.prog w = .ok ⟨w.heap.size,0,none⟩ (w.alloc (sob zs)):=by
  unfold newVar secv Value.cells sob
  generalize (bvs zs).toArray=c
  simp [newRow]
 simp only [Instr.alloc,Sem.run_bind,zero_sec,Result.andThen_ok,h,Sem.run_pure]
theorem store_new (w:World) {x:List UInt8} (hx:x.length=64) (y:List UInt8) (hy:y.length=64) :
  (Instr.storeAt 86 (.pointer (some ⟨w.heap.size,0,none⟩)) (secv x)).run Tryz.prog (w.alloc (sob y)) = .ok () (w.alloc (sob x)) :=
 run_storeAt_new w 86 (bvs y).toArray (bvs x).toArray (by rw [List.size_toArray,bvs_length,hx];exact Tryz.sizeSec) (by simp [bvs_length,hx,hy]) (all_oneCell_toArray (bvs_one x))
theorem var_sec (w:World) : ∃ o1:Obj,(Instr.alloc 86 true (.tuple #[])).run Tryz.prog w = .ok (.pointer (some ⟨w.heap.size,0,none⟩)) (w.alloc o1)∧(∀ c,o1=sob c→c=zs)∧o1=sob zs ∧
  ∀ x:List UInt8,x.length=64 → ∃ o2:Obj,(Instr.storeAt 86 (.pointer (some ⟨w.heap.size,0,none⟩)) (secv x)).run Tryz.prog (w.alloc o1) = .ok () (w.alloc o2)∧o2=sob x :=
 ⟨_,alloc_sec w,fun c h=>by
  unfold sob at h
  have h1:bvs zs=bvs c:=by simpa using h
  exact (secv_inj (by rw [secv,secv,h1])).symm,rfl,fun x hx=>⟨_,store_new w hx zs zs_length,rfl⟩⟩
end Go.Proofs.YtcodpnbemdflcaaGreatDoor
namespace Go.Proofs.YtcodpnbemdflcaaGreatDoor
open Go.RowKit Go.Maps
section
variable {w:World} {p q r n:Nat} {S:Dk}
set_option maxHeartbeats 1000000 in
theorem place_any (h:DAt w p q r n S) (a:Int):Calls Tryz.prog 62 #[.pointer (some ⟨p,0,none⟩), .int .i64 a] w fun e w'=>e = .returned (.bool (decide (0≤a∧a < (n:Int))))∧w'=w:=by
 have c0:=h.c0
 go_enter Tryz.func62,Tryz.ntmps62
 by_cases h1:0≤a
 ·go_wp2
  go_ret
  exact ⟨by simp [h1],rfl⟩
 ·go_wp2
  go_ret
  exact ⟨by simp;omega,rfl⟩
set_option maxHeartbeats 1000000 in
theorem did_any (h:DAt w p q r n S):Calls Tryz.prog 64 #[.pointer (some ⟨p,0,none⟩)] w fun e w'=>e = .returned (.tuple #[])∧DAt w' p q r n (didS S)∧Oth (ds p q r) w w':=by
 have c3:=h.c3
 have f2:=h.ptr.free 2
 have f3:=h.ptr.free 3
 have c2:=h.c2
 have hl:=h.left
 have Hh:=Lib.hid h
 clear h
 obtain ⟨T,hT⟩ : ∃ T,T=didS S:=⟨_,rfl⟩
 rw [← hT]
 have HT:=Lib.hid hT
 clear hT
 by_cases h1:0 < S.left
 ·obtain ⟨m,hm⟩ : ∃ m,S.left=m+1:=⟨S.left - 1,by omega⟩
  have c3':=(Hh.out.setLeft m (by omega)).c3
  have e1:T = { S with left:=m,down:=decide (m=0) } := by
   rw [HT.out,didS,if_pos h1,hm]
   simp
  have hD:=(Hh.out.setLeft m (by omega)).setDown (decide (m=0))
  rw [← e1] at hD
  rw [hm] at c3 hl
  clear e1 hm h1
  have HD:=Lib.hid hD
  clear hD
  go_enter Tryz.func64,Tryz.ntmps64
  go_wp2
  go_end0
  have e2:((m:Int) == 0)=decide (m=0):=by
   rw [Bool.eq_iff_iff]
   simp
  rw [e2]
  refine ⟨rfl,HD.out,((Oth.refl (ds p q r) w).set (.inl rfl) _ _).set (.inl rfl) _ _⟩
 ·have e1:T=S:=by rw [HT.out,didS,if_neg h1]
  have HD:=Lib.hid Hh.out
  rw [← e1] at HD
  clear e1
  go_enter Tryz.func64,Tryz.ntmps64
  go_wp2
  go_end0
  exact ⟨rfl,HD.out,Oth.refl _ _⟩
set_option maxRecDepth 20000 in
set_option maxHeartbeats 1000000 in
theorem remember_any (h:DAt w p q r n S) {k:Nat} (hk:k < n):Calls Tryz.prog 63 #[.pointer (some ⟨p,0,none⟩), .int .i64 (k:Int)] w fun e w'=>e = .returned (.tuple #[])∧DAt w' p q r n { S with had:=remH S k } ∧ Oth (ds p q r) w w':=by
 obtain ⟨T,hT⟩ : ∃ T,T = { S with had:=remH S k } := ⟨_,rfl⟩
 rw [← hT]
 have HT:=Lib.hid hT
 clear hT
 have c1:=h.c1
 have k1:=h.had.look h.most hk true
 have c0:=h.c0
 have hz:=zero_sec w
 cases hh:S.had k with
 | some x =>
  have hx:=(h.hadn k x hh).2
  rw [hh] at k1
  simp only [if_true,Option.isSome_some,Option.getD_some] at k1
  have e1:T=S:=by
   rw [HT.out]
   have:remH S k=S.had:=by
    funext j
    unfold remH
    split
    ·rename_i e
     subst e
     rw [hh]
     rfl
    ·rfl
   rw [this]
  have Hh:=Lib.hid h
  clear h
  subst e1
  clear HT hh
  clear hz
  obtain ⟨o1,a1, -, -,hs⟩:=var_sec w
  obtain ⟨o2,s1, -⟩:=hs x hx
  clear hs
  generalize secv x=v at k1 s1
  go_enter Tryz.func63,Tryz.ntmps63
  go_wp2_with (first | (refine wpList_alloc_run a1 rfl rfl ?_) | (refine wpList_store_run s1 rfl _ _ rfl rfl rfl ?_))
  go_end0
  exact ⟨rfl,Hh.out.alloc _,(Oth.refl _ _).alloc _⟩
 | none =>
  rw [hh] at k1
  simp only [if_true,Option.isSome_none,Option.getD_none] at k1
  clear hz
  obtain ⟨o1,a1, -, -,hs⟩:=var_sec w
  obtain ⟨o2,s1, -⟩:=hs zs zs_length
  clear hs
  have Hh:=Lib.hid h
  clear h
  generalize secv zs=v at k1 s1
  go_enter Tryz.func63,Tryz.ntmps63
  go_wp2_with (first | (refine wpList_alloc_run a1 rfl rfl ?_) | (refine wpList_store_run s1 rfl _ _ rfl rfl rfl ?_))
  clear a1 s1 k1 c0 c1
  have hD:=Hh.out.alloc o2
  have hO:Oth (ds p q r) w (w.alloc o2):=(Oth.refl _ _).alloc _
  clear Hh
  generalize w.alloc o2=W at hD hO
  have c0:=hD.drew.c0
  have c1:=hD.drew.c1
  have k2:=hD.drew.sec k hk
  have z2:(bvs (S.now k)).length=64:=by rw [bvs_length,hD.len k hk]
  have z3:=bvs_one (S.now k)
  obtain ⟨w2,u2,hH,hg⟩:=hD.drew.had.put hD.most hk (hD.len k hk)
  have hE:=hD.drew.setHad hg hH
  have k3:=hE.sec k hk
  have d0:=hE.c0
  have d1:=hE.c1
  have e1 : { S with had:=fun j=>if j=k then some (S.now k) else S.had j } = T:=by
   rw [HT.out]
   congr 1
   funext j
   unfold remH
   split
   ·rename_i e
    rw [hh]
    rfl
   ·rfl
  rw [e1] at hE
  have hP:=hO.drew.trans (Oth.of_grown hg (.inr (.inr rfl)))
  clear e1 HT hH hg hO hh
  have hl:(k:Int) < (n:Int):=by omega
  clear hD
  have HE:=Lib.hid hE
  have HP:=Lib.hid hP
  clear hE hP
  have S1:=Lib.hid (And.intro k2 (And.intro c0 c1))
  have S2:=Lib.hid (And.intro k3 (And.intro d0 d1))
  clear k2 k3 c0 c1 d0 d1
  dsimp only at S2
  unfold secv at u2
  have ua:=Tryz.underlying86
  have us:=Tryz.sizeSec
  rw [← z2] at us
  generalize bvs (S.now k)=cs at S1 S2 u2 z2 z3 us
  go_region_held (fun w'=>w'.rangeAt q (k*64) cs∧w'.cell? ⟨p,0,none⟩=some (.slice (some ⟨q,0,none⟩) n n)∧w'.cell? ⟨p,1,none⟩=some (.map (some r))) (first | exact S1.out | exact S2.out) (fail)
  all_goals (
   go_wp2
   go_end0
   exact ⟨rfl,HE.out,HP.out⟩)
set_option maxHeartbeats 1000000 in
theorem dsize_any (h:DAt w p q r n S):Calls Tryz.prog 18 #[.pointer (some ⟨p,0,none⟩)] w fun e w'=>e = .returned (.int .i64 (n:Int))∧w'=w:=by
 have c0:=h.c0
 go_enter Tryz.func18,Tryz.ntmps18
 go_wp2
 go_ret
 exact ⟨rfl,rfl⟩
def Tld (w:World) (p q r n:Nat) (T:Dk) (er:Int) (e:Ending) (w':World):Prop:=e = .returned (.int .i64 er)∧DAt w' p q r n T∧Oth (ds p q r) w w'
set_option maxRecDepth 20000 in
set_option maxHeartbeats 1000000 in
theorem flush_any (h:DAt w p q r n S) {T:Dk} {er:Int} (hT:T=flS S) (he:er=flE S):Calls Tryz.prog 58 #[.pointer (some ⟨p,0,none⟩)] w (Tld w p q r n T er):=by
 have c2:=h.c2
 have c1:=h.c1
 unfold flS at hT
 unfold flE at he
 cases hd:S.down with
 | true =>
  rw [hd] at c2 hT he
  simp only [if_true] at hT he
  subst hT he
  have HD:=Lib.hid h
  clear h hd
  go_enter Tryz.func58,Tryz.ntmps58
  go_wp2
  go_ret
  exact ⟨rfl,HD.out,Oth.refl _ _⟩
 | false =>
  obtain ⟨w1,k1,hH,hg⟩:=h.had.clear 0
  have h1:=h.setHad hg hH
  have ho:Oth (ds p q r) w w1:=Oth.of_grown hg (.inr (.inr rfl))
  have hc:=did_any h1
  rw [hd] at c2 hT he
  simp only [Bool.false_eq_true,if_false] at hT he
  rw [hd, ← hT] at hc
  subst he
  have HO:=Lib.hid ho
  clear ho hg hH h1 h hd hT
  go_enter Tryz.func58,Tryz.ntmps58
  go_wp2_with (go_at_call 64;refine hc.mono ?_;rintro e w' ⟨rfl,hD,hO⟩)
  have HD:=Lib.hid hD
  have HP:=Lib.hid (HO.out.trans hO)
  clear hD hO
  go_wp2
  go_ret
  exact ⟨rfl,HD.out,HP.out⟩
end
end Go.Proofs.YtcodpnbemdflcaaGreatDoor
namespace Go.Proofs.YtcodpnbemdflcaaGreatDoor
open Go.RowKit Go.Maps
theorem full_nil:full64 []=zs:=rfl
theorem bvs_full (l:List UInt8):bvs (full64 l)=bvs l++(bvs zs).drop l.length:=by
 unfold full64
 rw [bvs_append]
 congr 1
 have:bvs zs=List.replicate 64 (bv 0):=by simp [zs,bvs]
 rw [this,List.drop_replicate]
 simp [bvs]
theorem copy_sec {W:World} {A:Option Addr} {m c:Nat} {l:List UInt8} (h:Rd W A m l) (hm:m≤64) (ty:TypeId) :
  (Builtin.copy_ #[93,93] ty #[.slice (some ⟨W.heap.size,0,none⟩) 64 64, .slice A m c]).run Tryz.prog (W.alloc (sob zs)) = .ok (.int .i64 (m:Int)) (W.alloc (sob (full64 l))):=by
 have hl:=h.len
 obtain ⟨i0,hi,hz0,hz1,hz2⟩:=info_parts Tryz.infoU8
 have hsz:(Tryz.prog.info? 5).map (·.size)=some 1:=by rw [hi];simp [hz1]
 by_cases h0:m=0
 ·subst h0
  obtain rfl:l = []:=List.eq_nil_of_length_eq_zero hl
  rw [full_nil]
  exact run_copy_none (P:=Tryz.prog) _ 93 93 ty 5 _ _ 64 64 0 c Tryz.underlying93 hsz rfl
 ·obtain ⟨b,off,rfl,hb,hcell⟩:=h.at_ (by omega)
  have hrun:=run_copy_row (P:=Tryz.prog) (W.alloc (sob zs)) 93 93 ty 5 W.heap.size 0 64 64 ⟨b,off,none⟩ m c (bvs zs).toArray 86 (bvs l) Tryz.underlying93 hsz (heap_alloc_new W _)
   (by rw [bvs_length,hl];exact (Nat.min_eq_left hm).symm) (fun j v hj=>by
    obtain ⟨x,hx,rfl⟩:=bvs_get hj
    rw [add_plain,World.cell?_alloc_lt W _ _ hb]
    exact hcell j x hx) (by rw [bvs_length,hl,List.size_toArray,bvs_length,zs_length];omega) (bvs_one _)
  rw [hrun,bvs_length,hl]
  unfold sob
  rw [World.setRow_alloc_new,bvs_full,hl]
  simp [goInt]
section
variable {w:World} {p q r n:Nat} {S:Dk}
set_option maxRecDepth 20000 in
set_option maxHeartbeats 1000000 in
theorem dwrite_any (h:DAt w p q r n S) (a:Int) {A:Option Addr} {m c:Nat} {l:List UInt8} (hl:Rd w A m l) (hA:0 < m → ∀ x,A=some x → ¬ ds p q r x.block) {T:Dk} {er:Int} (hT:T=wrS n S a l) (he:er=wrE n S a l) :
  Calls Tryz.prog 34 #[.pointer (some ⟨p,0,none⟩), .int .i64 a, .slice A m c] w (Tld w p q r n T er):=by
 have c2:=h.c2
 have hp:=place_any h a
 have hlen:=hl.len
 unfold wrS at hT
 unfold wrE at he
 rw [hlen] at hT he
 cases hd:S.down with
 | true =>
  rw [hd] at c2 hT he
  rw [if_neg (by simp)] at hT
  simp only [if_true] at he
  subst hT he
  have HD:=Lib.hid h
  clear h hd hl hA hp hlen
  go_enter Tryz.func34,Tryz.ntmps34
  go_wp2
  go_ret
  exact ⟨rfl,HD.out,Oth.refl _ _⟩
 | false =>
  by_cases ha:0≤a∧a < (n:Int)
  ·rw [show decide (0≤a∧a < (n:Int))=true from by simp [ha]] at hp
   rw [hd] at c2 he
   simp only [Bool.false_eq_true,if_false] at he
   rw [if_neg (by simp [ha])] at he
   by_cases hm:m≤64
   ·rw [if_neg (by omega)] at he
    rw [if_pos ⟨hd,ha,hm⟩] at hT
    obtain ⟨k,rfl⟩ : ∃ k:Nat,a=(k:Int):=⟨a.toNat,by omega⟩
    rw [Int.toNat_natCast] at hT
    have hk:k < n:=by omega
    have hr:=remember_any h hk
    subst he
    have HT:=Lib.hid hT
    have HL:=Lib.hid hl
    have HA:=Lib.hid hA
    have Hlen:=Lib.hid hlen
    have Hd:=Lib.hid hd
    clear hT hl hA hd ha hlen h
    go_enter Tryz.func34,Tryz.ntmps34
    go_upto_region 10 with (first | (go_at_call 62;refine hp.mono ?_;rintro e w' ⟨rfl,rfl⟩) | (go_at_call 63;refine hr.mono ?_;rintro e w1 ⟨rfl,hD,hO⟩))
    clear hp hr c2
    have hl1:Rd w1 A m l:=by
     refine ⟨HL.out.len,fun hn => ?_⟩
     obtain ⟨b,off,e,hb,hc⟩:=HL.out.at_ hn
     refine ⟨b,off,e,Nat.lt_of_lt_of_le hb hO.size,fun j x hx => ?_⟩
     rw [← hc j x hx]
     exact World.cell?_of_block (hO.block b hb (HA.out hn _ e))
    have a1:=alloc_sec w1
    have k1:=copy_sec (c:=c) hl1 hm
    have hD2:=hD.alloc (sob (full64 l))
    have hO2:=hO.alloc (sob (full64 l))
    have hf:(full64 l).length=64:=full_length (by rw [Hlen.out];exact hm)
    have r1:(w1.alloc (sob (full64 l))).rangeAt w1.heap.size 0 (bvs (full64 l)):=fun j v hv=>by
     rw [Nat.zero_add]
     have:=(Whole.new w1 (bvs (full64 l)).toArray 86).cell j
     exact this.trans hv
    have HG:=Lib.hid hD.qlt
    clear hD hO hl1 HL HA
    generalize sob (full64 l)=o2 at k1 hD2 hO2 r1
    generalize sob zs=o1 at a1 k1
    go_upto_region 12 with (refine wpList_alloc_run a1 rfl rfl ?_)
    clear a1 k1
    generalize w1.heap.size=g at HG r1
    generalize w1.alloc o2=W at hD2 hO2 r1
    have f2:(bvs (full64 l)).length=64:=by rw [bvs_length,hf]
    have f3:=bvs_one (full64 l)
    have t1:=hD2.there hk
    have hE:=hD2.drew.setSec hk hf
    have t2:=hE.there hk
    have d0:=hE.c0
    have c0:=hD2.drew.c0
    have r2:=World.rangeAt_setCells_apart (w:=W.drew) r1 q (k*64) (bvs (full64 l)) (.inl (by have:=HG.out;omega))
    have e1:({ now:=fun j=>if j=k then full64 l else S.now j,had:=remH S k,down:=S.down,left:=S.left } : Dk)=putS S k l:=rfl
    rw [e1] at hE
    have hc:=did_any hE
    rw [← HT.out] at hc
    have hP:=hO2.drew.trans (Oth.of_grown (grown_setCells q (bvs (full64 l)) (k*64) W.drew) (.inr (.inl rfl)))
    have HP:=Lib.hid hP
    have S1:=Lib.hid (And.intro (show W.drew.rangeAt g 0 (bvs (full64 l)) from r1) (And.intro (show W.drew.there q (k*64) 64 from t1) c0))
    have S2:=Lib.hid (And.intro r2 (And.intro t2 d0))
    have ua:=Tryz.underlying86
    have us:=Tryz.sizeSec
    rw [← f2] at us
    clear e1 hE hP hO2 hD2 r1 r2 t1 t2 c0 d0 HT HG hf Hd
    generalize bvs (full64 l)=cs at S1 S2 hc HP f2 f3 us
    have hl:(k:Int) < (n:Int):=by omega
    go_region_held (fun w'=>w'.rangeAt g 0 cs∧w'.there q (k*64) 64∧w'.cell? ⟨p,0,none⟩=some (.slice (some ⟨q,0,none⟩) n n)) (first | exact S1.out | exact S2.out) (fail)
    all_goals (
     go_wp2_with (go_at_call 64;refine hc.mono ?_;rintro e w' ⟨rfl,hD,hO⟩)
     have HD:=Lib.hid hD
     have HO:=Lib.hid (HP.out.trans hO)
     clear hD hO
     go_wp2
     go_ret
     exact ⟨rfl,HD.out,HO.out⟩)
   ·rw [if_pos (by omega)] at he
    rw [if_neg fun q=>hm q.2.2] at hT
    subst hT he
    have HD:=Lib.hid h
    clear h hd hl hA hlen ha
    go_enter Tryz.func34,Tryz.ntmps34
    go_wp2_with (go_at_call 62;refine hp.mono ?_;rintro e w' ⟨rfl,rfl⟩)
    go_ret
    exact ⟨rfl,HD.out,Oth.refl _ _⟩
  ·rw [show decide (0≤a∧a < (n:Int))=false from by simp only [decide_eq_false_iff_not];exact ha] at hp
   rw [hd] at c2 he
   simp only [Bool.false_eq_true,if_false] at he
   rw [if_pos ha] at he
   rw [if_neg fun q=>ha q.2.1] at hT
   subst hT he
   have HD:=Lib.hid h
   clear h hd hl hA hlen ha
   go_enter Tryz.func34,Tryz.ntmps34
   go_wp2_with (go_at_call 62;refine hp.mono ?_;rintro e w' ⟨rfl,rfl⟩)
   go_ret
   exact ⟨rfl,HD.out,Oth.refl _ _⟩
def rdL (n:Nat) (S:Dk) (a:Int):List UInt8:=if 0≤a∧a < (n:Int) then S.now a.toNat else []
def rdE (n:Nat) (a:Int):Int:=if 0≤a∧a < (n:Int) then 0 else 71
def RdPost (w:World) (l:List UInt8) (er:Int) (e:Ending) (w':World):Prop :=
 ∃ v,e = .returned (.tuple #[v, .int .i64 er])∧Own 86 w' w.heap.size v l∧Below w.heap.size w w'
set_option maxRecDepth 20000 in
set_option maxHeartbeats 1000000 in
theorem read_any (h:DAt w p q r n S) (a:Int) {l:List UInt8} {er:Int} (hl:l=rdL n S a) (he:er=rdE n a) :
  Calls Tryz.prog 32 #[.pointer (some ⟨p,0,none⟩), .int .i64 a] w (RdPost w l er):=by
 have c0:=h.c0
 have hp:=place_any h a
 unfold rdL at hl
 unfold rdE at he
 by_cases ha:0≤a∧a < (n:Int)
 ·rw [show decide (0≤a∧a < (n:Int))=true from by simp [ha]] at hp
  rw [if_pos ha] at hl he
  obtain ⟨k,rfl⟩ : ∃ k:Nat,a=(k:Int):=⟨a.toNat,by omega⟩
  rw [Int.toNat_natCast] at hl
  have hk:k < n:=by omega
  have hx:=h.len k hk
  have k1:=load_sec (h.sec k hk) hx
  rw [← hl] at hx k1
  have s1:=store_new w hx zs zs_length
  have a1:=alloc_sec w
  have ho:Own 86 (w.alloc (sob l)) w.heap.size (.slice (some ⟨w.heap.size,0,none⟩) 64 64) l:=by
   have:=Own.of_row (U:=86) (w:=w.alloc (sob l)) (base:=w.heap.size) (l:=l) (g:=w.heap.size) (cap:=64) (cur:=bvs l) (heap_alloc_new w _) (Nat.le_refl _) (by omega) (by simp [maxLen]) (by rw [bvs_length,hx]) (by rw [hx,List.take_of_length_le (by rw [bvs_length,hx];omega)])
   rwa [hx] at this
  have hb:Below w.heap.size w (w.alloc (sob l)):=(Below.refl _ _).alloc (Nat.le_refl _) _
  subst he
  have HO:=Lib.hid ho
  have HB:=Lib.hid hb
  clear ho hb hl hx h ha
  have hlt:(k:Int) < (n:Int):=by omega
  generalize sob l=o2 at s1 HO HB
  generalize sob zs=o1 at a1 s1
  generalize secv l=v at k1 s1
  go_enter Tryz.func32,Tryz.ntmps32
  go_wp2_with (first | (go_at_call 62;refine hp.mono ?_;rintro e w' ⟨rfl,rfl⟩) | (refine wpList_alloc_run a1 rfl rfl ?_) | (refine wpList_load_run k1 rfl _ rfl rfl ?_) | (refine wpList_store_run s1 rfl _ _ rfl rfl rfl ?_))
  go_ret2
  exact ⟨_,rfl,HO.out,HB.out⟩
 ·rw [show decide (0≤a∧a < (n:Int))=false from by simp only [decide_eq_false_iff_not];exact ha] at hp
  rw [if_neg ha] at hl he
  subst hl he
  clear ha h
  go_enter Tryz.func32,Tryz.ntmps32
  go_wp2_with (go_at_call 62;refine hp.mono ?_;rintro e w' ⟨rfl,rfl⟩)
  go_ret2
  exact ⟨_,rfl,Own.nil,Below.refl _ _⟩
def newD:Dk:=⟨fun _=>zs,fun _=>none,false,0⟩
theorem made_zero (N:Nat):madeCells (bvs zs).toArray N=(List.replicate N (bv 0)).toArray:=by
 have hz0:bvs zs=List.replicate 64 (bv 0):=by
  unfold zs bvs
  rw [List.map_replicate]
 have hz:(bvs zs).toArray=Array.replicate 64 (bv 0):=by
  rw [hz0]
  generalize 64=m
  simp
 rw [hz]
 apply Array.ext
 ·simp [size_madeCells]
 ·intro i h1 h2
  have:i % 64 < 64:=Nat.mod_lt _ (by omega)
  simp [madeCells,this]
def sobs (n:Nat):Obj := .cells (List.replicate (n*64) (bv 0)).toArray 86
theorem make_secs {k:Nat} (hk:k≤4096) (W:World):(Instr.makeSlice 87 (.int .i64 (k:Int)) (.int .i64 (k:Int))).run Tryz.prog W = .ok (.slice (some ⟨W.heap.size,0,none⟩) k k) (W.alloc (sobs k)):=by
 obtain ⟨i0,hi,hz0,hz1,hz2⟩:=info_parts Tryz.infoSec
 have h:=run_make (P:=Tryz.prog) W 87 86 i0 _ Tryz.underlying87 hi hz0 .i64 .i64 (k:Int) (k:Int) (by omega) (by omega) (by rw [hz2];omega) (by omega)
 rw [h,Int.toNat_natCast,hz1]
 unfold sobs
 rw [← made_zero]
 rfl
theorem disk_new {q n:Nat} {W:World} (p r:Nat) (hq:Whole W q 86 (List.replicate (n*64) (bv 0))) (hp:Whole W p 89 [.slice (some ⟨q,0,none⟩) n n, .map (some r), .bool false, .int .i64 0])
  (hr:HadAt W r n fun _=>none) (pq:p≠q) (pr:p≠r) (qr:q≠r) (h0:0 < n) (h1:n≤4096):DAt W p q r n newD where
 ptr:=hp
 sec i hi j v hv:=by
  rw [hq.cell]
  have hj:j < 64:=by
   have:=(List.getElem?_eq_some_iff.1 hv).1
   simpa [bvs_length,newD,zs_length] using this
  have hv2:v=bv 0:=by
   have:bvs (newD.now i)=List.replicate 64 (bv 0):=by simp [newD,zs,bvs]
   rw [this,List.getElem?_replicate,if_pos hj] at hv
   exact (Option.some.inj hv).symm
  rw [hv2,List.getElem?_replicate,if_pos (by omega)]
 len _ _:=zs_length
 free j hj:=by
  rw [hq.cell,hq.free,List.getElem?_replicate,if_pos (by omega)]
  exact ⟨rfl,rfl⟩
 qlt:=hq.lt
 had:=hr
 hadn k x hx:=by cases hx
 pq:=pq
 pr:=pr
 qr:=qr
 pos:=h0
 most:=h1
 left:=Nat.zero_le _
def DNewPost (w:World) (a:Int) (e:Ending) (w':World):Prop :=
 if 1≤a∧a≤4096 then ∃ p q r,e = .returned (.tuple #[.pointer (some ⟨p,0,none⟩), .int .i64 0])∧DAt w' p q r a.toNat newD∧(∀ k,ds p q r k→w.heap.size≤k)∧Below w.heap.size w w'
 else e = .returned (.tuple #[.pointer none, .int .i64 1])∧Below w.heap.size w w'
set_option maxRecDepth 20000 in
set_option maxHeartbeats 1000000 in
theorem newDisk_any (a:Int) (w:World):Calls Tryz.prog 17 #[.int .i64 a] w (DNewPost w a):=by
 by_cases h1:a < 1
 ·go_enter Tryz.func17,Tryz.ntmps17
  go_wp2
  go_ret2
  rw [DNewPost,if_neg (by omega)]
  exact ⟨rfl,Below.refl _ _⟩
 ·by_cases h2:4096 < a
  ·go_enter Tryz.func17,Tryz.ntmps17
   go_wp2
   go_ret2
   rw [DNewPost,if_neg (by omega)]
   exact ⟨rfl,Below.refl _ _⟩
  ·obtain ⟨k,rfl⟩ : ∃ k:Nat,a=(k:Int):=⟨a.toNat,by omega⟩
   have k1:=make_secs (k:=k) (by omega)
   have hmm := @run_makeMap Tryz.prog
   obtain ⟨o,ho⟩ : ∃ o,o=sobs k:=⟨_,rfl⟩
   rw [← ho] at k1
   have HO:=Lib.hid ho
   clear ho
   have g1 : ¬ ((k:Int) < 1):=h1
   have g2 : ¬ (4096 < (k:Int)):=h2
   go_enter Tryz.func17,Tryz.ntmps17
   go_wp2
   go_ret2
   have h1':=Whole.new w (List.replicate (k*64) (bv 0)).toArray 86
   rw [DNewPost,if_pos ⟨h1,h2⟩]
   refine ⟨w.heap.size+1+1,w.heap.size,w.heap.size+1,by simp,?_,?_,?_⟩
   ·rw [Int.toNat_natCast]
    rw [HO.out]
    unfold sobs
    have hw1:=h1'.alloc (.map #[] 0)
    have hm:=hadAt_made (w.alloc (.cells (List.replicate (k*64) (bv 0)).toArray 86)) k
    have e1:(w.alloc (.cells (List.replicate (k*64) (bv 0)).toArray 86)).heap.size=w.heap.size+1:=by simp
    rw [e1] at hm
    refine disk_new (w.heap.size+1+1) (w.heap.size+1) ?_ ?_ ?_ (by omega) (by omega) (by omega) (by omega) (by omega)
    ·exact hw1.alloc _
    ·have:=Whole.new ((w.alloc (.cells (List.replicate (k*64) (bv 0)).toArray 86)).alloc (.map #[] 0)) #[.slice (some ⟨w.heap.size,0,none⟩) k k, .map (some (w.heap.size+1)), .bool false, .int .i64 0] 89
     have e2:((w.alloc (.cells (List.replicate (k*64) (bv 0)).toArray 86)).alloc (.map #[] 0)).heap.size=w.heap.size+1+1:=by simp
     rw [e2] at this
     simpa using this
    ·exact hm.keep (Below.heap_alloc _ _ _ hm.lt)
   ·rintro j (rfl | rfl | rfl) <;> omega
   ·exact (((Below.refl _ _).alloc (Nat.le_refl _) _).alloc (by simp) _).alloc (by simp;omega) _
end
end Go.Proofs.YtcodpnbemdflcaaGreatDoor

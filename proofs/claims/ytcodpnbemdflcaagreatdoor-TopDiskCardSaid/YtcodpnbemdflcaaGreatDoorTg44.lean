/-
  Package pheap: pack: a row of bytes in groups of four, each without its bytes 0 in front: contract.
  Package pheap: a heap's image as records: how many there are, and how great they are; what an operation leaves. Plain mathematics, no program.
  Package pheap: pieces: a heap's image as records: contract.
  slices.Equal at rows of texts that are the same: contract. Package pheap: counts.
-/
import Derived.Maps.AppendAt
import Derived.Test.YtcodpnbemdflcaaGreatDoorTg43
import Derived.Test.YtcodpnbemdflcaaGreatDoorTg27
import Derived.Deep.DeepCutAuto
import Derived.Test.YtcodpnbemdflcaaGreatDoorTg28
import Derived.Test.YtcodpnbemdflcaaGreatDoorTg33
import Derived.Test.YtcodpnbemdflcaaGreatDoorTg22
import Derived.Test.YtcodpnbemdflcaaGreatDoorTg21
namespace Go.Proofs.YtcodpnbemdflcaaGreatDoor
open Go.RowKit Go.Shelf
attribute [local go_sem] Oper.semAt_some
theorem chunk_any (A:Option Addr) (n c m:Nat) (hm:0 < m) (w:World) :
  Calls Tryz.prog 117 #[.slice A n c, .int .i64 (m:Int)] w fun e w'=>e = .returned (.func (.func 161) #[] #[.pointer (some ⟨w.heap.size,0,none⟩), .pointer (some ⟨w.heap.size+1,0,none⟩)]) ∧
   w'=(w.alloc (.cells #[.slice A n c] 93)).alloc (.cells #[.int .i64 (m:Int)] 3):=by
 have h1 : ¬ ((m:Int) < 1):=by omega
 have hmf : ∀ (fn:Fn) (first cap:Array Value) (w:World),(Instr.makeFunc fn first cap).run Tryz.prog w = .ok (.func fn first cap) w:=fun _ _ _ _=>rfl
 go_enter Tryz.func117,Tryz.ntmps117
 go_wp2
 go_ret
 exact ⟨rfl,rfl⟩
theorem chunk_stops (d:Nat) (hd:1≤d) (b off n c m:Nat) (hm:0 < m) (hnb:n+m≤1000000) (hnc:n≤c) (w:World) (Bs Bn:Nat) (hs:Bs < w.heap.size) (hn:Bn < w.heap.size)
  (cs:w.cell? ⟨Bs,0,none⟩=some (.slice (some ⟨b,off,none⟩) n c)) (cn:w.cell? ⟨Bn,0,none⟩=some (.int .i64 (m:Int))) :
  SeqStopsK Fence.wide d Tryz.prog 161 #[.pointer (some ⟨Bs,0,none⟩), .pointer (some ⟨Bn,0,none⟩)] (fun x:Fin (gcnt m n) => #[chv b off n m x.1]) (KpC Bs Bn) (fun ys=>ys=List.finRange (gcnt m n)) (fun _=>True) (gcnt m n) w :=
 fun l J Jx W hW hJ _ hY h0=>chunk1_in d hd l Bs Bn b off n c m hm hnb hnc J Jx (fun s V k h=>hJ s V (V.drewN k) none h (grown_below (below_drewN (Below.refl _ _) k) none) (fun r e=>by cases e)) hY W
  ((hW.cell (p:=⟨Bs,0,none⟩) hs).trans cs) ((hW.cell (p:=⟨Bn,0,none⟩) hn).trans cn) h0
theorem wpListIn_append_run {F:Fence} {n:Nat} {P:Program} {w w':World} {ops:Array Oper} {rest:List Oper} {o:Oper} {a:Act} {Q:Exit→Act→World→Prop} {v y v':Value} {t u ty:TypeId}
  (hrun:(Builtin.append_ #[t,u] ty #[v,y]).run P w = .ok v' w') (hgd:o.guard=none) (s x:Operand)
  (ho:o.op = .call { callee := .builtin .append,args := #[s,x],argTypes := #[t,u] }) (hty:o.type=ty) (hs:a.eval s=v) (hx:a.eval x=y)
  (h:wpListIn F n P ops Q rest (a.put o.dst v') w'):wpListIn F n P ops Q (o :: rest) a w:=by
 subst hty
 refine wpListIn_plain hgd fun K hK => ?_
 unfold Oper.wpIn
 refine ⟨by simp [Oper.about,ho,resolve,Target.leads,Sem.run_pure],?_⟩
 rw [Oper.semAt_plain F _ _ (by rw [ho];intro c hc';cases hc')]
 simp [execOp,ho,resolve,invoke,builtin,hs,hx,hrun,Result.andThen]
 exact hK _ _ h
theorem boxed_appendedAt {W w1:World} {n₀ B:Nat} {t e:TypeId} {size:Nat} {v v':Value} {k m:Nat} {xs ys:List Value}
  (hv:Go.Boxed W B t v) (hte:t≠e) (hrow:W.ownsRow n₀ e size v k xs) (hn₀:n₀≤W.heap.size) (hB:n₀≤B)
  (hown':w1.ownsRow n₀ e size v' m ys) (hgrow:W.grownBy w1 v.ownBlock) :
  Go.Boxed w1 B t v∧Go.Boxed (w1.setCell ⟨B,0,none⟩ v') B t v'∧(w1.setCell ⟨B,0,none⟩ v').ownsRow n₀ e size v' m ys∧KeepsOthers W (w1.setCell ⟨B,0,none⟩ v')∧Below n₀ W (w1.setCell ⟨B,0,none⟩ v'):=by
 have hv1:Go.Boxed w1 B t v:=hv.kept hgrow (hv.not_row hte hrow)
 refine ⟨hv1,hv1.set v',hown'.kept (grownBy_setCell' w1 B v') (.inr (hv1.not_row hte hown').symm),?_,?_⟩
 ·refine (KeepsOthers.of_grownBy hgrow fun j o ej hj => ?_).trans (KeepsOthers.setCell _ _ _)
  rcases hrow.2 with ⟨rfl,_⟩ | ⟨g,cap,cur,rfl,_,hgb,_⟩
  ·simp [Value.ownBlock] at ej
  ·obtain rfl:g=j:=by simpa [Value.ownBlock] using ej
   rw [hgb] at hj;cases hj;rfl
 ·refine ((Below.refl n₀ W).grown hgrow hn₀ fun j ej => ?_).setCell (p:=⟨B,0,none⟩) hB v'
  rcases hrow.2 with ⟨rfl,_⟩ | ⟨g,cap,cur,rfl,hb,_,_⟩
  ·simp [Value.ownBlock] at ej
  ·obtain rfl:g=j:=by simpa [Value.ownBlock] using ej
   exact hb
theorem Rd.grp {w:World} {b off n m k:Nat} {l:List UInt8} (h:Rd w (some ⟨b,off,none⟩) n l) (hk:m*k < n):Rd w (some ⟨b,off+m*k,none⟩) (min m (n - m*k)) (grp m l k):=by
 have h1:=h.cut (k:=m*k) (cap:=n) (by omega) (Nat.le_refl _)
 rw [if_neg (by omega)] at h1
 simp only [Option.map_some,add_plain] at h1
 have h2:=h1.take (k:=min m (n - m*k)) (by omega)
 have e:(l.drop (m*k)).take (min m (n - m*k))=Go.Proofs.YtcodpnbemdflcaaGreatDoor.grp m l k:=by
  unfold Go.Proofs.YtcodpnbemdflcaaGreatDoor.grp
  have hl:=h.len
  by_cases hm:m≤n - m*k
  ·rw [Nat.min_eq_left hm]
  ·rw [Nat.min_eq_right (by omega),List.take_of_length_le (by rw [List.length_drop];omega),List.take_of_length_le (by rw [List.length_drop];omega)]
 rwa [e] at h2
def pkPre (l:List UInt8) {G:Nat} (pre:List (Fin G)):List UInt8:=pre.flatMap fun k=>pk1 (grp 4 l k.1)
theorem pkPre_snoc (l:List UInt8) {G:Nat} (pre:List (Fin G)) (x:Fin G):pkPre l (pre ++ [x])=pkPre l pre++pk1 (grp 4 l x.1):=by simp [pkPre]
theorem pkPre_all (l:List UInt8) {n:Nat} (h:l.length=n):pkPre l (List.finRange (gcnt 4 n))=pkd l:=by
 unfold pkPre pkd grps
 rw [h,List.flatMap_def,List.flatMap_def]
 congr 1
 rw [List.map_map]
 apply List.ext_getElem
 ·simp
 ·intro i h1 h2
  simp
theorem pkPre_len (l:List UInt8) {G:Nat} : ∀ pre:List (Fin G),(pkPre l pre).length≤5*pre.length
 | []=>by simp [pkPre]
 | x :: pre=>by
  have h1:=pkPre_len l pre
  have h2:=lefts_le (grp 4 l x.1)
  have h3:=grp_length 4 l x.1
  unfold pkPre at h1 ⊢
  rw [List.flatMap_cons,List.length_append,pk1_len,List.length_cons]
  omega
set_option maxRecDepth 100000 in
set_option maxHeartbeats 4000000 in
theorem pack_in {b off n c:Nat} {l:List UInt8} {w:World} (h:Rd w (some ⟨b,off,none⟩) n l) (h0:0 < n) (hn:n≤100000) (hnc:n≤c) :
  CallsIn Fence.wide 3 Tryz.prog 118 #[.slice (some ⟨b,off,none⟩) n c] w (Gives w (pkd l)):=by
 refine callsIn_of_wp_marks Tryz.func118 rfl trivial ?_ rfl
 simp only [Tryz.ntmps118,List.size_toArray,List.length_cons,List.length_nil,Nat.reduceAdd,Nat.reduceSub,Array.replicate_succ,Array.replicate_zero,List.push_toArray,List.append_toArray,List.nil_append,List.cons_append]
 gi_wp2_with (refine ⟨trivial,?_⟩;gi_at_call 117;refine (callsIn_wide.2 (chunk_any _ _ _ 4 (by decide) _)).mono ?_;rintro e w' ⟨rfl,rfl⟩)
 have bP:=Go.Boxed.new w 93 (.slice none 0 0)
 have bS:=Go.Boxed.new (w.alloc (.cells #[.slice none 0 0] 93)) 93 (.slice (some ⟨b,off,none⟩) n c)
 have bN:=Go.Boxed.new ((w.alloc (.cells #[.slice none 0 0] 93)).alloc (.cells #[.slice (some ⟨b,off,none⟩) n c] 93)) 3 (.int .i64 (4:Nat))
 rw [World.size_alloc] at bS
 rw [World.size_alloc,World.size_alloc] at bN
 have hB0:Below w.heap.size w (((w.alloc (.cells #[.slice none 0 0] 93)).alloc (.cells #[.slice (some ⟨b,off,none⟩) n c] 93)).alloc (.cells #[.int .i64 (4:Nat)] 3)):=(((Below.refl _ w).alloc (Nat.le_refl _) _).alloc (by simp) _).alloc (by simp;omega) _
 refine wpIn_rangeFunc_ownG rfl (by decide) (gf:=161) (lb := #[.pointer (some ⟨w.heap.size+1,0,none⟩), .pointer (some ⟨w.heap.size+1+1,0,none⟩)]) rfl trivial (enters_of Tryz.func161 (by kernel_rfl) rfl)
  (chunk_stops 2 (by decide) b off n c 4 (by decide) (by omega) hnc _ (w.heap.size+1) (w.heap.size+1+1) (by simp) (by simp) (bS.alloc _).cell bN.cell) (fun h k=>h.trans k) (fun W l o o' hl _ _ _=>KpC.put (B:=w.heap.size+1+1+1) (by omega) (by omega) W l o' (by simpa using hl)) (Below.refl _ _) (fun _=>rfl)
  (fun pre W=>(∃ v,Go.Boxed W w.heap.size 93 v∧W.ownsRow w.heap.size 5 1 v (pkPre l pre).length (bvs (pkPre l pre))∧True)∧Below w.heap.size w W∧Go.Boxed W (w.heap.size+1) 93 (.slice (some ⟨b,off,none⟩) n c)∧Go.Boxed W (w.heap.size+1+1) 3 (.int .i64 (4:Nat)))
  (fun _ _ _=>False)
  (OwnFrom.and (Own.from (holdsRow_own w.heap.size w.heap.size 93 5 1 (fun pre=>(pkPre l pre).length) (fun pre=>bvs (pkPre l pre)) (fun _ _=>True)) _) (OwnFrom.and (ownFrom_below (Nat.le_refl _) (by simp;omega)) (OwnFrom.and (Own.from (boxed_own _ _ _) _) (Own.from (boxed_own _ _ _) _))))
  (fun _ _ _ _ _ hs _ _=>hs)
  ⟨⟨_,(bP.alloc _).alloc _,World.ownsRow_nil _ _ _ _,trivial⟩,hB0,bS.alloc _,bN⟩
  (fun x => { tmps := #[.slice (some ⟨b,off,none⟩) n c,undef, .slice none 0 0, .pointer (some ⟨w.heap.size,0,none⟩),chv b off n 4 x.1,undef, .slice (some ⟨b,off,none⟩) n c, .func (.func 161) #[] #[.pointer (some ⟨w.heap.size+1,0,none⟩), .pointer (some ⟨w.heap.size+1+1,0,none⟩)],chv b off n 4 x.1,undef,undef,undef,undef,undef,undef,undef,undef,undef,undef,undef,undef],defers := [] }) ?assign ?body ?done ?stop
 case assign =>
  intro l x W K hK
  gi_wp2
  exact hK
 case body =>
  rintro lp pre x W ⟨⟨v,hv,hrow,_⟩,hB,hS,hN⟩ hlt
  obtain ⟨e,he⟩ : ∃ e,e=min 4 (n - 4*x.1):=⟨_,rfl⟩
  have hxn:=(gcnt_lt (n:=n) (m:=4) (by decide)).1 x.2
  have hgr:=h.grp hxn
  have hT:=trimLeft_any hgr hB (by omega) (by omega) (Nat.le_refl _) (by omega)
  have hpl:=pkPre_len l pre
  have hge:gcnt 4 n≤n:=by unfold gcnt;omega
  have hll:=lefts_le (grp 4 l x.1)
  have hl4:=grp_length 4 l x.1
  simp only [chv, ← he]
  rw [← he] at hgr hT
  obtain ⟨t,ht⟩ : ∃ t,t=lefts (grp 4 l x.1):=⟨_,rfl⟩
  rw [← ht] at hll
  have hown:Own 5 W w.heap.size v (pkPre l pre):=hrow
  have hcp:=hv.cell
  obtain ⟨m,hm⟩ : ∃ m,m=t.length:=⟨_,rfl⟩
  have hm4:m≤4:=by omega
  have hmi:(m:Int) % 256=(m:Int):=by omega
  have H1:=Lib.hid hrow
  have H2:=Lib.hid hB
  have H3:=Lib.hid hown
  have H4:=Lib.hid (And.intro hS (And.intro hN hv))
  have H5:=Lib.hid (And.intro ht hm)
  clear hrow hB hown hS hN hv hgr he
  have hml : ∀ A1 (c1:Nat),Rd w A1 m t → ∃ g1 k1 c2 w1 g3 k3 c3 w3,(Builtin.append_ #[93,93] 93 #[v, .slice (some ⟨W.heap.size,0,none⟩) 1 1]).run Tryz.prog (W.alloc (.cells #[.int .u8 (m:Int)] 5)) = .ok (.slice (some ⟨g1,0,none⟩) k1 c2) w1 ∧
    w1.cell? ⟨w.heap.size,0,none⟩=some v∧w1.frozen? ⟨w.heap.size,0,none⟩=false∧(w1.setCell ⟨w.heap.size,0,none⟩ (.slice (some ⟨g1,0,none⟩) k1 c2)).cell? ⟨w.heap.size,0,none⟩=some (.slice (some ⟨g1,0,none⟩) k1 c2) ∧
    (Builtin.append_ #[93,93] 93 #[.slice (some ⟨g1,0,none⟩) k1 c2, .slice A1 m c1]).run Tryz.prog (w1.setCell ⟨w.heap.size,0,none⟩ (.slice (some ⟨g1,0,none⟩) k1 c2)) = .ok (.slice (some ⟨g3,0,none⟩) k3 c3) w3 ∧
    w3.cell? ⟨w.heap.size,0,none⟩=some (.slice (some ⟨g1,0,none⟩) k1 c2)∧w3.frozen? ⟨w.heap.size,0,none⟩=false ∧
    Hid (KeepsOthers W (w3.setCell ⟨w.heap.size,0,none⟩ (.slice (some ⟨g3,0,none⟩) k3 c3))∧KpC (w.heap.size+1) (w.heap.size+1+1) W (w3.setCell ⟨w.heap.size,0,none⟩ (.slice (some ⟨g3,0,none⟩) k3 c3)) ∧
     (∃ v,Go.Boxed (w3.setCell ⟨w.heap.size,0,none⟩ (.slice (some ⟨g3,0,none⟩) k3 c3)) w.heap.size 93 v∧(w3.setCell ⟨w.heap.size,0,none⟩ (.slice (some ⟨g3,0,none⟩) k3 c3)).ownsRow w.heap.size 5 1 v (pkPre l (pre ++ [x])).length (bvs (pkPre l (pre ++ [x])))∧True)∧Below w.heap.size w (w3.setCell ⟨w.heap.size,0,none⟩ (.slice (some ⟨g3,0,none⟩) k3 c3)) ∧
     Go.Boxed (w3.setCell ⟨w.heap.size,0,none⟩ (.slice (some ⟨g3,0,none⟩) k3 c3)) (w.heap.size+1) 93 (.slice (some ⟨b,off,none⟩) n c)∧Go.Boxed (w3.setCell ⟨w.heap.size,0,none⟩ (.slice (some ⟨g3,0,none⟩) k3 c3)) (w.heap.size+1+1) 3 (.int .i64 (4:Nat))):=by
   intro A1 c1 hr1
   obtain ⟨hS,hN,hv⟩:=H4.out
   have hB:=H2.out
   have hm':=H5.out
   have hx1:pkPre l (pre ++ [x])=(pkPre l pre ++ [UInt8.ofNat m])++t:=by rw [pkPre_snoc,pk1, ← hm'.1, ← hm'.2,List.append_assoc];rfl
   have hbv:bvs [UInt8.ofNat m] = [.int .u8 (m:Int)]:=by simp [bvs,bv];omega
   obtain ⟨v1,w1,hap1,ho1,hg1,_⟩:=run_app w.heap.size 93 93 5 Tryz.underlying93 Tryz.infoU8 v (pkPre l pre) (H3.out.alloc _) (some ⟨W.heap.size,0,none⟩) 1 1 [UInt8.ofNat m] (Rd.lit (w:=W) (U:=5) (l := [UInt8.ofNat m]) #[.int .u8 (m:Int)] hbv.symm (by simp [maxLen])) (by omega) (by have:=hB.size;simp;omega)
   obtain ⟨b1,b2,r2,k2,l2⟩:=Go.Boxed.appended hv (by decide) H1.out hB.size (Nat.le_refl _) ho1 hg1
   obtain ⟨g1,c2,rfl⟩:=ownsRow_succ (k:=(pkPre l pre).length) (show w1.ownsRow _ _ _ v1 ((pkPre l pre).length+1) _ from by have:=ho1;unfold Own at this;rwa [List.length_append] at this)
   have o2:Own 5 (w1.setCell ⟨w.heap.size,0,none⟩ (.slice (some ⟨g1,0,none⟩) ((pkPre l pre).length+1) c2)) w.heap.size (.slice (some ⟨g1,0,none⟩) ((pkPre l pre).length+1) c2) (pkPre l pre ++ [UInt8.ofNat m]):=r2
   have hB2:=hB.trans l2
   obtain ⟨v3,w3,hap3,ho3,hg3,_⟩:=run_app w.heap.size 93 93 5 Tryz.underlying93 Tryz.infoU8 _ _ o2 A1 m c1 t (hr1.below hB2) (by simp;omega) hB2.size
   obtain ⟨b3,b4,r4,k4,l4⟩:=boxed_appendedAt b2 (by decide) r2 hB2.size (Nat.le_refl _) ho3 hg3
   obtain ⟨g3,c3,rfl⟩:=ownsRow_succ (k:=(pkPre l pre).length+t.length) (show w3.ownsRow _ _ _ v3 ((pkPre l pre).length+t.length+1) _ from by have:=ho3;unfold Own at this;rw [List.length_append,List.length_append] at this;rwa [show (pkPre l pre).length + [UInt8.ofNat m].length+t.length=(pkPre l pre).length+t.length+1 by simp;omega] at this)
   have kS : ∀ {z:Nat} {u:Value} {T:TypeId},T≠5→z≠w.heap.size→Go.Boxed W z T u→Go.Boxed (w3.setCell ⟨w.heap.size,0,none⟩ (.slice (some ⟨g3,0,none⟩) ((pkPre l pre).length+t.length+1) c3)) z T u:=fun hT hz hb =>
    (((hb.alloc _).kept hg1 (hb.not_row hT H1.out)).other hz _ |>.kept hg3 (((hb.alloc _).kept hg1 (hb.not_row hT H1.out)).other hz _ |>.not_row hT r2)).other hz _
   have s4:=kS (by decide) (by omega) hS
   have n4:=kS (by decide) (by omega) hN
   refine ⟨g1,_,c2,w1,g3,_,c3,w3,hap1,b1.cell,b1.frozen,b2.cell,hap3,b3.cell,b3.frozen,Lib.hid ⟨k2.trans k4,fun k hk => ?_,⟨_,b4,?_,trivial⟩,hB2.trans l4,s4,n4⟩⟩
   ·rcases hk with e | e <;> subst e
    ·exact s4.trans hS.symm
    ·exact n4.trans hN.symm
   ·rw [hx1]
    exact r4
  unfold TrimPost at hT
  rw [← ht, ← hm] at hT
  clear ht hm
  gi_wp2_with (first | (refine ⟨trivial,?_⟩;gi_at_call 162;refine (CallsIn.inRound lp (callsIn_wide.2 hT)).mono ?_;rintro e1 w1 ⟨A1,c1,rfl,q1,q2,rfl⟩;obtain ⟨g1,k1,c2,w1,g3,k3,c3,w3,hap1,f1,f2,f3,hap3,f4,f5,HM⟩:=hml A1 c1 q2;clear hT hml) | (gi_at_builtin;refine wpListIn_append_run hap1 rfl _ _ rfl rfl rfl rfl ?_) | (gi_at_builtin;refine wpListIn_append_run hap3 rfl _ _ rfl rfl rfl rfl ?_))
  obtain ⟨z1,z2,z3,z4,z5,z6⟩:=HM.out
  exact ⟨z1.from _,z2,z3,z4,z5,z6⟩
 case done =>
  rintro D ys W hD rfl ⟨⟨v,hv,hrow,_⟩,hB,_⟩ hK
  rw [pkPre_all l h.len] at hrow
  have hc:=hv.cell
  gi_wp2
  refine ⟨by simp, .inl ⟨_,_,rfl,run_takeDeferred hK,?_⟩⟩
  exact ⟨_,results_tmp rfl _ _ _,v,rfl,ownsRow_putObj hrow _ hK rfl,hB.trans (belowK_b (w:=w) (Nat.le_refl _) W D _ _ (by simp at hD;omega) hK rfl rfl)⟩
 case stop =>
  rintro D c pre W _ _ h _
  exact h.elim
theorem pack_any {A:Option Addr} {n c:Nat} {l:List UInt8} {w:World} (h:Rd w A n l) (h0:0 < n) (hn:n≤100000) (hnc:n≤c) :
  Calls Tryz.prog 118 #[.slice A n c] w (Gives w (pkd l)):=by
 obtain ⟨b,off,rfl,_,_⟩:=h.at_ h0
 exact callsIn_wide.1 (pack_in h h0 hn hnc)
end Go.Proofs.YtcodpnbemdflcaaGreatDoor
namespace Go.Proofs.YtcodpnbemdflcaaGreatDoor
open Go.RowKit
theorem fours_n (n:Int):Fours (encN n):=⟨1,encN_length n⟩
theorem fours_i (n:Int):Fours (encI n):=⟨2,encI_length n⟩
theorem fours_o (x:Ob):Fours (encO x):=(fours_n _).app ((fours_n _).app ((fours_n _).app ((fours_n _).app ((Fours.flat fun _ _=>fours_i _).app (Fours.flat fun _ _=>fours_n _)))))
theorem fours_h (H:Hp):Fours (encH H):=(fours_n _).app ((fours_n _).app ((Fours.flat fun _ _=>fours_n _).app ((fours_n _).app (Fours.flat fun _ _=>fours_o _))))
theorem pkd_num {n:Int} (h:n < 65536):(pkd (encN n)).length≤3:=by
 unfold encN
 exact pkd_be (by omega)
theorem sum_const {α:Type} (c:Nat) : ∀ l:List α,(l.map fun _=>c).sum=c*l.length
 | []=>rfl
 | a :: t=>by rw [List.map_cons,List.sum_cons,sum_const c t,List.length_cons,Nat.mul_add];omega
theorem sumL_map {α:Type} (f:α→Blk) (k:Nat) : ∀ l:List α,((l.map fun x=>k*(sz (f x).2).toNat).sum:Int)=k*sumL (l.map f)
 | []=>by simp [sumL]
 | a :: t=>by
  have:=sumL_map f k t
  have hz:=sz_pos (f a).2
  rw [List.map_cons,List.map_cons,List.sum_cons,sumL_cons,Int.mul_add, ← this]
  push_cast
  rw [Int.toNat_of_nonneg (by omega)]
theorem pkd_ob {H:Hp} (k:ImH H) (hx:H.nx≤65536) {x:Ob} (h:x ∈ H.obs):(pkd (encO x)).length≤12*(sz x.bl.2).toNat:=by
 obtain ⟨o1,o2,o3,o4,o5⟩:=k.right.ok x h
 have h8:=k.right.fr.1
 have hw:=o4.words (self_in x.bl)
 have hz:=sz_le256 (o:=H.od) (by omega) (by omega)
 have hzp:=sz_pos x.bl.2
 have hf:=needI_fits (w:=x.ws.length) (l:=x.ls.length) (by rw [o3];exact o4.1)
 have hin:=needI_in (w:=x.ws.length) (l:=x.ls.length) (by rw [o3];exact o4.1)
 rw [o3] at hf
 unfold encO
 rw [pkd_split (fours_n _),pkd_split (fours_n _),pkd_split (fours_n _),pkd_split (fours_n _),pkd_split (Fours.flat fun _ _=>fours_i _)]
 simp only [List.length_append]
 have e1:=pkd_num (n:=x.hd) (by omega)
 have e2:=pkd_num (n:=x.bl.1) (by omega)
 have e3:=pkd_num (n:=(x.ws.length:Int)) (by omega)
 have e4:=pkd_num (n:=(x.ls.length:Int)) (by omega)
 have e5:(pkd (x.ws.flatMap fun x=>encI x)).length≤(x.ws.map fun _=>10).sum:=pkd_flat (f:=encI) (c:=fun _=>10) (l:=x.ws) (fun _ _=>fours_i _) (fun y _=>pkd_eight_le (encI_length y))
 have e6:=pkd_flat (f:=encN) (c:=fun _=>3) (l:=x.ls) (fun _ _=>fours_n _) (fun y hy=>pkd_num (by
  rcases o5 y hy with e | ⟨z,hz,e⟩
  ·omega
  ·have:=(k.right.ok z hz).2.1
   omega))
 rw [sum_const] at e5 e6
 omega
theorem pkd_heap {H:Hp} (k:ImH H) (hx:H.nx≤65535):(pkd (encH H)).length≤4092:=by
 have h8:=k.right.fr.1
 have hz:=sz_le256 (o:=H.od) (by omega) (by omega)
 have hl:=k.right.len
 have hs:=k.right.allI.2.2
 unfold allBI at hs
 rw [sumL_append] at hs
 have hfr:=sumL_ge H.fr
 unfold encH
 rw [pkd_split (fours_n _),pkd_split (fours_n _),pkd_split (Fours.flat fun _ _=>fours_n _),pkd_split (fours_n _)]
 simp only [List.length_append]
 have e1:=pkd_num (n:=H.od) (by omega)
 have e2:=pkd_num (n:=H.nx) (by omega)
 have e3:=pkd_num (n:=(H.obs.length:Int)) (by omega)
 have e4:(pkd (H.tp.flatMap fun x=>encN x)).length≤(H.tp.map fun _=>3).sum:=pkd_flat (f:=encN) (c:=fun _=>3) (l:=H.tp) (fun _ _=>fours_n _) (fun y hy=>pkd_num (by
  rcases k.right.tp y hy with e | ⟨z,hz,e⟩
  ·omega
  ·have:=(k.right.ok z hz).2.1
   omega))
 have e5:(pkd (H.obs.flatMap encO)).length≤(H.obs.map fun x=>12*(sz x.bl.2).toNat).sum:=pkd_flat (f:=encO) (c:=fun x=>12*(sz x.bl.2).toNat) (l:=H.obs) (fun _ _=>fours_o _) (fun y hy=>pkd_ob k (by omega) hy)
 have e6:=sumL_map Ob.bl 12 H.obs
 rw [sum_const,k.tp] at e4
 push_cast at e6
 omega
def hpcs (H:Hp):List (List UInt8):=pcsB (encH H)
theorem hpcs_mem {H:Hp} {t:List UInt8} (h:t ∈ hpcs H):1≤t.length∧t.length≤1024:=pcsB_mem h
theorem hpcs_length {H:Hp} (k:ImH H) (hx:H.nx≤65535):(hpcs H).length≤4:=pcsB_length (pkd_heap k hx)
def opI (o:Opn):List Int := [o.k,o.h,o.i,o.n,o.kk,o.v,o.t]
def opR (o:Opn):List UInt8:=111 :: (opI o).flatMap encI
theorem opR_length (o:Opn):(opR o).length=57:=by
 rw [opR,List.length_cons,flat_length encI_length]
 rfl
def countsB (o:Opn) (r:Int):Bool:=decide (r=0∧o.k≠6∧o.k≠7∧o.k≠8)
def IntOp (o:Opn):Prop := ∀ n ∈ opI o,IsInt n
theorem counts_not {H:Hp} (k:RightH H) {o:Opn} (h:countsB o (doneH H o).2.1=false):(doneH H o).1=H:=by
 unfold countsB at h
 rw [decide_eq_false_iff_not] at h
 rcases doneH_keeps k o with ⟨e,_⟩ | ⟨e,e2,_⟩ | ⟨e,e2,_⟩
 ·exact e
 ·exact absurd ⟨e,by omega,by omega,by omega⟩ h
 ·exact absurd ⟨e,by omega,by omega,by omega⟩ h
theorem done_nx {H:Hp} (k:RightH H) (o:Opn):(doneH H o).1.nx≤H.nx+1:=by
 rcases doneH_keeps k o with ⟨e,_⟩ | ⟨_,_,_,e⟩ | ⟨_,_,_,e⟩
 ·rw [e];omega
 ·omega
 ·omega
theorem done_od {H:Hp} (o:Opn):(doneH H o).1.od=H.od:=by
 unfold doneH
 split
 ·unfold allocH
  repeat (split; · rfl)
  rfl
 ·split
  ·split
   ·rfl
   ·rename_i q _
    obtain ⟨p,x⟩:=q
    simp only
    unfold objH
    split
    ·rfl
    ·split
     ·rfl
     ·split
      ·rfl
      ·split
       ·split <;> rfl
       ·rfl
  ·split
   ·unfold topH
    split
    ·rfl
    ·split
     ·rfl
     ·split <;> rfl
   ·rfl
theorem done_im {H:Hp} (k:ImH H) {o:Opn} (ho:IsInt o.v):ImH (doneH H o).1:=by
 obtain ⟨hr,ht⟩:=doneH_right k.right o
 refine ⟨hr,ht.trans k.tp,?_⟩
 unfold doneH
 split
 ·rcases allocH_cases k.right o.n o.kk with ⟨_,e⟩ | ⟨_,_,e⟩ | ⟨_,_,_,e⟩ | ⟨h1,h2,h3,b,m,ht,e⟩ <;> rw [e]
  ·exact k.ints
  ·exact k.ints
  ·exact k.ints
  ·intro x hx n hn
   rcases List.mem_append.1 hx with hx | hx
   ·exact k.ints x hx n hn
   ·rw [List.mem_singleton] at hx
    subst hx
    rw [List.eq_of_mem_replicate hn]
    exact ⟨by omega,by omega⟩
 ·split
  ·split
   ·exact k.ints
   ·rename_i q hq
    obtain ⟨p,x⟩:=q
    obtain ⟨hp,hx⟩:=findO_get hq
    have hxm:=List.mem_of_getElem? hp
    simp only
    unfold objH
    split
    ·intro y hy n hn
     simp only [freeH] at hy
     obtain ⟨z,hz,rfl⟩:=List.mem_map.1 hy
     exact k.ints z (List.mem_of_mem_eraseIdx hz) n hn
    ·split
     ·exact k.ints
     ·split
      ·intro y hy n hn
       rcases List.mem_or_eq_of_mem_set hy with hy | rfl
       ·exact k.ints y hy n hn
       ·rcases List.mem_or_eq_of_mem_set hn with hn | rfl
        ·exact k.ints x hxm n hn
        ·exact ho
      ·split
       ·split
        ·intro y hy n hn
         rcases List.mem_or_eq_of_mem_set hy with hy | rfl
         ·exact k.ints y hy n hn
         ·exact k.ints x hxm n hn
        ·exact k.ints
       ·exact k.ints
  ·split
   ·unfold topH
    split
    ·exact k.ints
    ·split
     ·exact k.ints
     ·split <;> exact k.ints
   ·exact k.ints
end Go.Proofs.YtcodpnbemdflcaaGreatDoor
namespace Go.Proofs.YtcodpnbemdflcaaGreatDoor
open Go.RowKit Go.Shelf
attribute [local go_sem] Oper.semAt_some
def ptPre (m:Nat) (l:List UInt8) {G:Nat} (pre:List (Fin G)):List (List UInt8):=pre.map fun k=>112 :: grp m l k.1
theorem ptPre_snoc (m:Nat) (l:List UInt8) {G:Nat} (pre:List (Fin G)) (x:Fin G):ptPre m l (pre ++ [x])=ptPre m l pre ++ [112 :: grp m l x.1]:=by simp [ptPre]
theorem ptPre_all (m:Nat) (l:List UInt8) {n:Nat} (h:l.length=n):ptPre m l (List.finRange (gcnt m n))=(grps m l).map (112 :: ·):=by
 unfold ptPre grps
 rw [h,List.map_map]
 apply List.ext_getElem
 ·simp
 ·intro i h1 h2
  simp
theorem signed_set {c:List (List UInt8)} {k:Nat} (hk:c.length=k+1) {g:List UInt8} (hg:(c.map (112 :: ·))[k]? = some (112 :: g)):(c.map (112 :: ·)).set k (108 :: g)=signed c:=by
 obtain ⟨d,x,rfl⟩ : ∃ d x,c=d ++ [x]:=⟨c.dropLast,c.getLast (by intro e;rw [e] at hk;simp at hk),(List.dropLast_concat_getLast _).symm⟩
 have hd:d.length=k:=by simp at hk;exact hk
 subst hd
 have hx:x=g:=by simpa using hg
 subst hx
 simp [signed]
theorem OwnV.setV {I:TypeId} {w:World} {base g n c:Nat} {l:List Value} (hn:l.length=n) (h:OwnV I w base (.slice (some ⟨g,0,none⟩) n c) l) (j:Nat) (u:Value) :
  OwnV I (w.setCell ⟨g,j,none⟩ u) base (.slice (some ⟨g,0,none⟩) n c) (l.set j u):=by
 unfold OwnV at h ⊢
 rw [hn] at h
 rw [List.length_set,hn]
 exact (World.ownsRow.stored h j u).1
theorem rows_apart {W:World} {base base':Nat} {e e':TypeId} {z z' k k':Nat} {v v':Value} {xs xs':List Value} (h:W.ownsRow base e z v k xs) (h':W.ownsRow base' e' z' v' k' xs') (hne:e≠e') : ∀ j,v.ownBlock=some j→v'.ownBlock≠some j:=fun j hj hj'=>by
 rcases h.2 with ⟨rfl,_⟩ | ⟨g,cap,cur,rfl,_,hgb,_⟩
 ·simp [Value.ownBlock] at hj
 ·rcases h'.2 with ⟨rfl,_⟩ | ⟨g',cap',cur',rfl,_,hgb',_⟩
  ·simp [Value.ownBlock] at hj'
  ·obtain rfl:g=j:=by simpa [Value.ownBlock] using hj
   obtain rfl:g'=g:=by simpa [Value.ownBlock] using hj'
   rw [hgb] at hgb'
   simp at hgb'
   exact hne hgb'.2
theorem row_own {β:Type} (base:Nat) (e:TypeId) (z:Nat) (v:Value) (k:Nat) (xs:List Value):Go.Own (fun (_:β) W=>W.ownsRow base e z v k xs):=by
 rintro s X Y row hr hg hrow
 refine hr.kept hg ?_
 rcases hr.2 with ⟨rfl,_⟩ | ⟨g,cap,cur,rfl,_,hgb,_⟩
 ·exact .inl rfl
 ·refine .inr fun e' => ?_
  obtain ⟨o,ho,hc⟩:=hrow g (by simpa [Value.ownBlock] using e'.symm)
  rw [hgb] at ho;cases ho;cases hc
theorem enc_pos (H:Hp):0 < (encH H).length:=by
 unfold encH
 rw [List.length_append,encN_length]
 omega
theorem pkd_pos {b:List UInt8} (h:0 < b.length):0 < (pkd b).length:=by
 have h1:0 < (grps 4 b).length:=by
  rw [grps_length]
  unfold gcnt
  omega
 unfold pkd
 cases e:grps 4 b with
 | nil=>rw [e] at h1;simp at h1
 | cons a t=>rw [List.flatMap_cons,List.length_append,pk1_len];omega
theorem cell_other {V:World} {p g j:Nat} {T:TypeId} {v u:Value} (h:Go.Boxed V p T v) (hne:p≠g):Go.Boxed (V.setCell ⟨g,j,none⟩ u) p T v:=(Below.heap_setCell _ _ _ _ hne).trans h
theorem then_false {K:Act→World→Prop} {Q:Exit→Act→World→Prop} : ∀ e a w,Exit.then K (fun _ _ _=>False) e a w→Exit.then K Q e a w:=fun e a w h=>by
 cases e <;> first | exact h | exact h.elim
def GivesS (w:World) (T:List (List UInt8)) (e:Ending) (w':World):Prop := ∃ v,e = .returned v∧OwnV 9 w' w.heap.size v (svs T)∧Below w.heap.size w w'
set_option maxRecDepth 100000 in
set_option maxHeartbeats 4000000 in
theorem pieces_in (s:HSl) (H:Hp) (w:World) (h:RdH w s H) (hT:Tab w) (k:ImH H) (hx:H.nx≤65535) (hS:SmallH H) :
  CallsIn Fence.wide 3 Tryz.prog 71 #[hval H s] w (GivesS w (hpcs H)):=by
 have hpk:=pkd_heap k hx
 have hR:=k.right
 have hI:IntsH H:=k.ints
 have B0:=(Below.refl w.heap.size w).alloc (Nat.le_refl _) (.cells (hcs H s).toArray 28)
 have K0:=Whole.new w (hcs H s).toArray 28
 have H1:=putHeap_any s H _ (h.below B0) hS (hT.below B0) hI
 unfold PutHP at H1
 obtain ⟨A,n,c,F,m,d⟩:=s
 simp only [hval,hcs] at *
 obtain ⟨k0,k1,k2,k3,k4,k5,k6,k7⟩:=K0.eight
 refine callsIn_of_wp_marks Tryz.func71 rfl trivial ?_ rfl
 rw [wpIn_wide]
 simp only [Tryz.ntmps71,List.size_toArray,List.length_cons,List.length_nil,Nat.reduceAdd,Nat.reduceSub,Array.replicate_succ,Array.replicate_zero,List.push_toArray,List.append_toArray,List.nil_append,List.cons_append]
 go_upto_region 1 with (fail)
 generalize w.alloc (.cells _ 28)=W at H1 B0 k0 k1 k2 k3 k4 k5 k6 k7 ⊢
 have H1':=H1.mono (R':=fun e w'=>Below W.heap.size W w' ∧ ∃ v,e = .returned (.tuple #[v, .int .i64 0])∧Own 5 w' W.heap.size v (encH H)) fun e w' ⟨q1,q2⟩=>⟨q1,by
  rcases q2 with ⟨_,q⟩ | ⟨q,_⟩
  ·exact q
  ·exact absurd hR q⟩
 clear H1
 obtain ⟨N,hN⟩ : ∃ N,(encH H).length=N:=⟨_,rfl⟩
 obtain ⟨l,hl⟩ : ∃ l,l=pkd (encH H):=⟨_,rfl⟩
 obtain ⟨N3,hN3⟩ : ∃ N3,l.length=N3:=⟨_,rfl⟩
 have HN:=Lib.hid (And.intro hN (And.intro hl hN3))
 have HB:=Lib.hid (And.intro B0 hpk)
 have HH:=Lib.hid (show 0 < N∧N≤100000∧0 < N3∧N3≤4092 by
  have q1:=enc_pos H
  have q2:=k.size
  have q3:=pkd_pos q1
  rw [← hl,hN3] at q3 hpk
  rw [hN] at q1 q2
  omega)
 clear hN hl hN3 B0 hpk hR hI h hT k hx hS K0
 go_wp2_with (first | (go_at_call 116;refine H1'.mono ?_;rintro e w1 ⟨b1,vP,rfl,oP⟩;obtain ⟨A2,c2,rfl,hc2,hm2,hr2⟩:=oP.shapeN HN.out.1;have HP:=pack_any (hr2.alloc (.cells #[.slice none 0 0] 98)) HH.out.1 HH.out.2.1 hc2;rw [← HN.out.2.1] at HP;have bP:=Go.Boxed.new w1 98 (.slice none 0 0);have HQ:=Lib.hid (And.intro b1 (And.intro bP True.intro));clear H1' oP hc2 hm2 hr2 bP b1) | (go_at_call 118;refine HP.mono ?_;rintro e w3 ⟨v3,rfl,o3,b3⟩;obtain ⟨A3,c3,rfl,hc3,hm3,hr3⟩:=o3.shapeN HN.out.2.2;have HO:=Lib.hid (And.intro o3 (And.intro b3 (And.intro hc3 hr3)));clear HP o3 b3 hc3 hm3 hr3) | (go_at_call 117;refine (chunk_any _ _ _ 1023 (by decide) _).mono ?_;rintro e w4 ⟨rfl,rfl⟩))
 obtain ⟨hN,hl,hN3⟩:=HN.out
 obtain ⟨h0N,hNle,h0,hN4⟩:=HH.out
 obtain ⟨o3,b3,hc3,hr3⟩:=HO.out
 obtain ⟨b1,bP,_⟩:=HQ.out
 obtain ⟨B0,hpk⟩:=HB.out
 obtain ⟨bb,off,rfl,_,_⟩:=hr3.at_ h0
 generalize Value.agg _=va
 generalize Value.tuple _=vt
 generalize Value.slice A2 N c2=v2
 obtain ⟨p,hp⟩ : ∃ p,p=w1.heap.size:=⟨_,rfl⟩
 rw [← hp] at bP ⊢
 have hs1:(w1.alloc (.cells #[.slice none 0 0] 98)).heap.size=p+1:=by simp [hp]
 have hwp:w.heap.size≤p:=by rw [hp];exact Nat.le_trans B0.size b1.size
 have hB2:Below w.heap.size w (w1.alloc (.cells #[.slice none 0 0] 98)):=(B0.trans (b1.mono B0.size)).alloc (by omega) _
 have hB3:Below w.heap.size w w3:=hB2.trans (b3.mono hB2.size)
 have bP3:Go.Boxed w3 p 98 (.slice none 0 0):=(b3.block p (by omega)).trans bP
 have hp3:p < w3.heap.size:=bP3.lt
 have o3':w3.ownsRow w.heap.size 5 1 (.slice (some ⟨bb,off,none⟩) N3 c3) l.length (bvs l):=o3.mono (base':=w.heap.size) (by rw [hs1];omega)
 have bS:=Go.Boxed.new w3 93 (.slice (some ⟨bb,off,none⟩) N3 c3)
 have bN:=Go.Boxed.new (w3.alloc (.cells #[.slice (some ⟨bb,off,none⟩) N3 c3] 93)) 3 (.int .i64 (1023:Nat))
 rw [World.size_alloc] at bN
 have hB4:Below w.heap.size w ((w3.alloc (.cells #[.slice (some ⟨bb,off,none⟩) N3 c3] 93)).alloc (.cells #[.int .i64 (1023:Nat)] 3)):=(hB3.alloc hB3.size _).alloc (by simp;omega) _
 have o4:((w3.alloc (.cells #[.slice (some ⟨bb,off,none⟩) N3 c3] 93)).alloc (.cells #[.int .i64 (1023:Nat)] 3)).ownsRow w.heap.size 5 1 (.slice (some ⟨bb,off,none⟩) N3 c3) l.length (bvs l):=(Own.alloc (show Own 5 w3 w.heap.size _ l from o3') _).alloc _
 have Hwp:=Lib.hid (And.intro hwp hp3)
 clear hp hs1 hN hl hN3 hr3 o3' hB2 hB3 b1 b3 bP o3 B0 hpk HO HQ HB hwp k0 k1 k2 k3 k4 k5 k6 k7 h0N hNle
 refine wpIn_wide (n:=3).1 ?_
 refine wpIn_rangeFunc_ownG rfl (by decide) (gf:=161) (lb := #[.pointer (some ⟨w3.heap.size,0,none⟩), .pointer (some ⟨w3.heap.size+1,0,none⟩)]) rfl trivial (enters_of Tryz.func161 (by kernel_rfl) rfl)
  (chunk_stops 2 (by decide) bb off N3 c3 1023 (by decide) (by omega) hc3 _ w3.heap.size (w3.heap.size+1) (by simp;omega) (by simp) (bS.alloc _).cell bN.cell) (fun h k=>h.trans k) (fun W l o o' hl _ _ _=>KpC.put (B:=w3.heap.size+1+1) (by omega) (by omega) W l o' (by simpa using hl)) (Below.refl _ _) (fun _=>rfl)
  (fun pre V=>(∃ v,Go.Boxed V p 98 v∧V.ownsRow w.heap.size 9 1 v (svs (ptPre 1023 l pre)).length (svs (ptPre 1023 l pre))∧True)∧Below w.heap.size w V∧Go.Boxed V w3.heap.size 93 (.slice (some ⟨bb,off,none⟩) N3 c3)∧Go.Boxed V (w3.heap.size+1) 3 (.int .i64 (1023:Nat))∧V.ownsRow w.heap.size 5 1 (.slice (some ⟨bb,off,none⟩) N3 c3) l.length (bvs l))
  (fun _ _ _=>False)
  (OwnFrom.and (Own.from (holdsRow_own w.heap.size p 98 9 1 (fun pre=>(svs (ptPre 1023 l pre)).length) (fun pre=>svs (ptPre 1023 l pre)) (fun _ _=>True)) _) (OwnFrom.and (ownFrom_below (Nat.le_refl _) (by simp;have:=Hwp.out.1;have:=Hwp.out.2;omega)) (OwnFrom.and (Own.from (boxed_own _ _ _) _) (OwnFrom.and (Own.from (boxed_own _ _ _) _) (Own.from (row_own _ _ _ _ _ _) _)))))
  (fun _ _ _ _ _ hs _ _=>hs)
  ⟨⟨_,(bP3.alloc _).alloc _,World.ownsRow_nil _ _ _ _,trivial⟩,hB4,bS.alloc _,bN,o4⟩
  (fun x => { tmps := #[va, .pointer (some ⟨w.heap.size,0,none⟩), .slice none 0 0,v2, .int .i64 0, .pointer (some ⟨p,0,none⟩),chv bb off N3 1023 x.1,undef,vt,va,vt,v2, .int .i64 0,v2, .slice (some ⟨bb,off,none⟩) N3 c3, .func (.func 161) #[] #[.pointer (some ⟨w3.heap.size,0,none⟩), .pointer (some ⟨w3.heap.size+1,0,none⟩)],chv bb off N3 1023 x.1,undef,undef,undef,undef,undef,undef,undef,undef,undef,undef,undef,undef,undef,undef,undef,undef,undef,undef,undef],defers := [] }) ?assign ?body ?done ?stop
 case assign =>
  intro l x W K hK
  gi_wp2
  exact hK
 case body =>
  rintro lp pre x V ⟨⟨v,hv,hrow,_⟩,hB,hS,hN,hL⟩ hlt
  have hxn:=(gcnt_lt (n:=N3) (m:=1023) (by decide)).1 x.2
  have hL8:Own 5 V w.heap.size (.slice (some ⟨bb,off,none⟩) N3 c3) l:=hL
  obtain ⟨A9,c9,e9,_,_,hr9⟩:=hL8.shapeN HN.out.2.2
  injection e9 with i1 i2 i3
  subst i1
  clear i2 i3
  have hgr:=hr9.grp hxn
  obtain ⟨e,he⟩ : ∃ e,e=min 1023 (N3 - 1023*x.1):=⟨_,rfl⟩
  simp only [chv, ← he]
  rw [← he] at hgr
  have kc:=hgr.conv (P:=Tryz.prog) e 93 5 9 Tryz.underlying93 Tryz.underlying5 Tryz.underlying9
  have ea:=str_append [112] (grp 1023 l x.1)
  obtain ⟨sg,hsg⟩ : ∃ sg,sg=ByteArray.mk (grp 1023 l x.1).toArray:=⟨_,rfl⟩
  obtain ⟨sp,hsp⟩ : ∃ sp,sp=ByteArray.mk (112 :: grp 1023 l x.1).toArray:=⟨_,rfl⟩
  rw [← hsg] at kc ea
  have hsz:sg.size≤1023:=by
   have:=grp_length 1023 l x.1
   rw [hsg]
   show (grp 1023 l x.1).toArray.size≤_
   simpa using this
  have ea':ByteArray.mk #[112]++sg=sp:=by rw [hsp];exact ea
  have hcp:=hv.cell
  have hpl:pre.length < gcnt 1023 N3:=hlt
  have hge:gcnt 1023 N3≤10:=by unfold gcnt;omega
  have hx1:svs (ptPre 1023 l (pre ++ [x]))=svs (ptPre 1023 l pre) ++ [.string sp]:=by rw [ptPre_snoc,svs_append,hsp];rfl
  obtain ⟨v1,V1,hap1,ho1,hg1,_⟩:=run_app_cell (P:=Tryz.prog) (w:=V) w.heap.size 98 98 9 Tryz.underlying98 Tryz.infoStr rfl (by omega) (by omega) v (svs (ptPre 1023 l pre)) hrow (.string sp) rfl (by rw [svs_length,ptPre,List.length_map];omega) hB.size
  obtain ⟨b1,b2,r2,k2,l2⟩:=boxed_appendedAt hv (by decide) hrow hB.size Hwp.out.1 ho1 hg1
  obtain ⟨g1,c1,rfl⟩:=ownsRow_succ (k:=(svs (ptPre 1023 l pre)).length) (show V1.ownsRow _ _ _ v1 ((svs (ptPre 1023 l pre)).length+1) _ from by have:=ho1;unfold OwnV at this;rwa [List.length_append] at this)
  obtain ⟨K1,hK1⟩ : ∃ K1,K1=(svs (ptPre 1023 l pre)).length+1:=⟨_,rfl⟩
  rw [← hK1] at hap1 b2 r2 k2 l2
  have kS : ∀ {z:Nat} {u:Value} {T:TypeId},T≠9→z≠p→Go.Boxed V z T u→Go.Boxed (V1.setCell ⟨p,0,none⟩ (.slice (some ⟨g1,0,none⟩) K1 c1)) z T u:=fun hT hz hb=>(hb.kept hg1 (hb.not_row hT hrow)).other hz _
  have hpw:=Hwp.out.2
  have s4:=kS (by decide) (by omega) hS
  have n4:=kS (by decide) (by omega) hN
  have hL4:(V1.setCell ⟨p,0,none⟩ (.slice (some ⟨g1,0,none⟩) K1 c1)).ownsRow w.heap.size 5 1 (.slice (some ⟨bb,off,none⟩) N3 c3) l.length (bvs l) :=
   (hL.kept hg1 (.inr fun e=>rows_apart hL hrow (by decide) bb rfl (e.symm.trans rfl))).kept (grownBy_setCell' V1 p _) (.inr (hv.not_row (by decide) hL).symm)
  have HE:=Lib.hid (show KeepsOthers V (V1.setCell ⟨p,0,none⟩ (.slice (some ⟨g1,0,none⟩) K1 c1))∧KpC w3.heap.size (w3.heap.size+1) V (V1.setCell ⟨p,0,none⟩ (.slice (some ⟨g1,0,none⟩) K1 c1))∧(∃ v,Go.Boxed (V1.setCell ⟨p,0,none⟩ (.slice (some ⟨g1,0,none⟩) K1 c1)) p 98 v∧(V1.setCell ⟨p,0,none⟩ (.slice (some ⟨g1,0,none⟩) K1 c1)).ownsRow w.heap.size 9 1 v (svs (ptPre 1023 l (pre ++ [x]))).length (svs (ptPre 1023 l (pre ++ [x])))∧True)∧Below w.heap.size w (V1.setCell ⟨p,0,none⟩ (.slice (some ⟨g1,0,none⟩) K1 c1)) from
   ⟨k2,fun k hk=>by
    rcases hk with e | e <;> subst e
    ·exact s4.trans hS.symm
    ·exact n4.trans hN.symm,⟨_,b2,by rw [hx1];exact r2,trivial⟩,hB.trans l2⟩)
  have f1:=b1.cell
  have f2:=b1.frozen
  have HE2:=Lib.hid (And.intro s4 (And.intro n4 hL4))
  clear hv hrow hB hS hN hL hL8 hr9 hgr he ea hsg hsp hx1 ho1 hg1 b1 b2 r2 k2 l2 kS s4 n4 hL4 hK1 hpl hge hxn hpw
  gi_wp2_with (gi_at_builtin;refine wpListIn_append_run hap1 rfl _ _ rfl rfl rfl rfl ?_)
  obtain ⟨z1,z2,z3,z4⟩:=HE.out
  obtain ⟨z5,z6,z7⟩:=HE2.out
  exact ⟨z1.from _,z2,z3,z4,z5,z6,z7⟩
 case done =>
  rintro D ys V hD rfl ⟨⟨v,hv,hrow,_⟩,hB,hS,hN,hL⟩ hK
  rw [ptPre_all 1023 l HN.out.2.2] at hrow
  obtain ⟨G,hG⟩ : ∃ G,(grps 1023 l).length=G+1:=⟨(grps 1023 l).length - 1,by
   have h0:=HH.out.2.2.1
   rw [grps_length,HN.out.2.2]
   unfold gcnt
   omega⟩
  have hG2:G≤10:=by
   have h0:=HH.out.2.2.2
   rw [grps_length,HN.out.2.2] at hG
   unfold gcnt at hG
   omega
  obtain ⟨G1,hG1⟩ : ∃ G1,G1=G+1:=⟨_,rfl⟩
  have hlen:(svs ((grps 1023 l).map (112 :: ·))).length=G1:=by rw [svs_length,List.length_map,hG,hG1]
  have ow:OwnV 9 V w.heap.size v (svs ((grps 1023 l).map (112 :: ·))):=hrow
  obtain ⟨g1,c1,rfl,hgb⟩:=ow.formV hlen (by omega)
  obtain ⟨gk,hgk⟩ : ∃ gk,((grps 1023 l).map ((112:UInt8) :: ·))[G]? = some (112 :: gk):=⟨(grps 1023 l)[G]'(by omega),by simp [hG]⟩
  have hgl:gk.length≤1000000:=by
   have h1:=List.mem_of_getElem? hgk
   obtain ⟨y,hy,e⟩:=List.mem_map.1 h1
   injection e with _ e
   subst e
   have:=grps_mem hy
   omega
  have hcell:V.cell? ⟨g1,G,none⟩=some (.string ⟨(112 :: gk).toArray⟩):=by
   obtain ⟨A8,c8,e8,_,_,hrd⟩:=ow.shape hlen
   injection e8 with e8 _ _
   subst e8
   obtain ⟨b8,o8,x8,e9,_,hx8,hc8⟩:=hrd.cell (j:=G) (by omega)
   injection e9 with e9
   injection e9 with e9 e10
   subst e9 e10
   rw [Nat.zero_add] at hc8
   rw [hc8, ← hx8]
   show (svs _)[G]? = _
   rw [svs,List.getElem?_map,hgk]
   rfl
  have hfr:V.frozen? ⟨g1,G,none⟩=false:=World.ownsRow.frozenAt (show V.ownsRow w.heap.size 9 1 (.slice (some ⟨g1,0,none⟩) G1 c1) G1 _ from by have:=ow;unfold OwnV at this;rwa [hlen] at this) G
  have HTP:=fun W=>trimPrefix_any 112 gk W hgl
  have eb:=str_append [108] gk
  obtain ⟨sa,hsa⟩ : ∃ sa,sa=ByteArray.mk (112 :: gk).toArray:=⟨_,rfl⟩
  obtain ⟨sb,hsb⟩ : ∃ sb,sb=ByteArray.mk gk.toArray:=⟨_,rfl⟩
  obtain ⟨sc,hsc⟩ : ∃ sc,sc=ByteArray.mk (108 :: gk).toArray:=⟨_,rfl⟩
  rw [← hsa] at hcell
  rw [← hsa, ← hsb] at HTP
  have eb':ByteArray.mk #[108]++sb=sc:=by rw [hsb,hsc];exact eb
  have hsz:sb.size≤1000000:=by
   rw [hsb]
   show gk.toArray.size≤_
   simpa using hgl
  have o9:=OwnV.setV hlen ow G (.string sc)
  rw [hsc,show svs ((grps 1023 l).map (112 :: ·))=((grps 1023 l).map (112 :: ·)).map sv from rfl,show Value.string ⟨(108 :: gk).toArray⟩=sv (108 :: gk) from rfl, ← List.map_set,signed_set hG hgk] at o9
  have hE:svs (hpcs H)=(signed (grps 1023 l)).map sv:=by rw [HN.out.2.1];rfl
  rw [← hE] at o9
  have hpg:p≠g1:=fun e=>hv.not_row (by decide) hrow (by rw [e];rfl)
  have hc:=hv.cell
  have hv9:=cell_other (j:=G) (u := .string sc) hv hpg
  have eG:(G1:Int) - 1=(G:Int):=by omega
  have hGl:G < G1:=by omega
  have hsr:sv (108 :: gk) = .string sc:=by rw [hsc];rfl
  rw [hsr] at o9
  have hK9:(V.setCell ⟨g1,G,none⟩ (.string sc)).heap[D]? = some (.deferred (some [])):=(KeepsOthers.setCell V ⟨g1,G,none⟩ (.string sc)).same D _ hK rfl
  have hB9:=hB.setCell (p:=⟨g1,G,none⟩) hgb (.string sc)
  have HF:=Lib.hid (And.intro o9 (And.intro hB9 (And.intro hK9 (And.intro hv9.cell hD))))
  clear hrow hB hS hN hL ow hlen hgk hgl eb hsa hsb hsc hsr o9 hE hpg hG hG1 hgb hv hv9
  gi_wp2
  go_upto_region 7 with (fail)
  go_cut [33] from 26 to 34 (fun _ wc=>Hid (OwnV 9 wc w.heap.size (.slice (some ⟨g1,0,none⟩) G1 c1) (svs (hpcs H))∧Below w.heap.size w wc∧wc.heap[D]? = some (.deferred (some []))∧wc.cell? ⟨p,0,none⟩=some (.slice (some ⟨g1,0,none⟩) G1 c1)))
  case first =>
   refine Code.wp_mono then_false ?_
   go_region_with (go_at_call 114;refine (HTP _).mono ?_;rintro e w9 ⟨rfl,hw9⟩;subst hw9)
   all_goals (
    go_wp2
    go_meet)
   all_goals exact Lib.hid ⟨HF.out.1.drew,HF.out.2.1.drew,HF.out.2.2.1,HF.out.2.2.2.1⟩
  case rest =>
   obtain ⟨q1,q2,hK',q4⟩:=hcut.out
   have hD:=HF.out.2.2.2.2
   clear HF HTP hcut
   go_wp2
   refine ⟨by simp, .inl ⟨_,_,rfl,run_takeDeferred hK',?_⟩⟩
   exact ⟨_,results_tmp rfl _ _ _, .slice (some ⟨g1,0,none⟩) G1 c1,rfl,ownsRow_putObj q1 _ hK' rfl,q2.trans (belowK_b (w:=w) (Nat.le_refl _) _ D _ _ (by have:=Hwp.out;simp at hD;omega) hK' rfl rfl)⟩
 case stop =>
  rintro D c pre W _ _ h _
  exact h.elim
theorem pieces_heap (s:HSl) (H:Hp) (w:World) (h:RdH w s H) (hT:Tab w) (k:ImH H) (hx:H.nx≤65535) (hS:SmallH H) :
  Calls Tryz.prog 71 #[hval H s] w (GivesS w (hpcs H)):=callsIn_wide.1 (pieces_in s H w h hT k hx hS)
end Go.Proofs.YtcodpnbemdflcaaGreatDoor
namespace Go.Proofs.YtcodpnbemdflcaaGreatDoor
open Go.RowKit
set_option maxRecDepth 20000 in
set_option maxHeartbeats 2000000 in
theorem eqs_any {A B:Option Addr} {n c d:Nat} {T:List (List UInt8)} {w:World} (h1:RdV w A n (svs T)) (h2:RdV w B n (svs T)) (hn:n≤1000) :
  Calls Tryz.prog 72 #[.slice A n c, .slice B n d] w fun e w'=>e = .returned (.bool true)∧Below w.heap.size w w':=by
 have H1:=Lib.hid h1
 have H2:=Lib.hid h2
 clear h1 h2
 go_enter Tryz.func72,Tryz.ntmps72
 go_wp2
 go_loopw [13] (fun i wr => ∃ k:Nat,k≤n∧i = .int .i64 (k:Int)∧Below w.heap.size w wr) (fun i _=>n - (Go.RowKit.intOf i).toNat)
 case atStart=>exact ⟨0,Nat.zero_le _,rfl,Below.refl _ _⟩
 case round =>
  obtain ⟨k,hk,rfl,hb⟩:=hrel
  by_cases hlt:k < n
  ·obtain ⟨b1,o1,x1,rfl,hb1,hx1,hc1⟩:=(H1.out.below hb).cell hlt
   obtain ⟨b2,o2,x2,rfl,hb2,hx2,hc2⟩:=(H2.out.below hb).cell hlt
   obtain rfl:x1=x2:=by rw [hx1] at hx2;injection hx2
   obtain ⟨t,rfl⟩ : ∃ t,x1=sv t:=by
    rw [svs,List.getElem?_map] at hx1
    cases e:T[k]? with
    | none=>rw [e] at hx1;cases hx1
    | some t=>rw [e] at hx1;injection hx1 with hx1;exact ⟨t,hx1.symm⟩
   obtain ⟨s,hs⟩ : ∃ s,sv t = .string s:=⟨_,rfl⟩
   rw [hs] at hc1 hc2
   have HB:=Lib.hid hb
   clear hx1 hx2 hs hb
   go_wp2
   go_quiet (fail)
   go_wp2
   go_roundw
   case rel=>exact ⟨k+1,by omega,by go_num,below_drewN HB.out _⟩
   case measure=>simp [Go.RowKit.intOf];omega
  ·obtain rfl:k=n:=by omega
   have HB:=Lib.hid hb
   clear hb
   go_wp2
   go_ret
   exact ⟨rfl,HB.out⟩
set_option maxHeartbeats 1000000 in
theorem counts_any (o:Opn) (x y:Int) (w:World) :
    Calls Tryz.prog 54 #[opv o, .agg #[.int .i64 x, .int .i64 y]] w fun e w' => e = .returned (.bool (countsB o x)) ∧ Below w.heap.size w w' := by
  obtain ⟨k0, k1, k2, k3, k4, k5, k6⟩ := o
  simp only [opv, opcs]
  have KO := Whole.new w #[.int .i64 k0, .int .i64 k1, .int .i64 k2, .int .i64 k3, .int .i64 k4, .int .i64 k5, .int .i64 k6] 45
  have KR := Whole.new (w.alloc (.cells #[.int .i64 k0, .int .i64 k1, .int .i64 k2, .int .i64 k3, .int .i64 k4, .int .i64 k5, .int .i64 k6] 45)) #[.int .i64 x, .int .i64 y] 40
  rw [World.size_alloc] at KR
  have KO := KO.alloc (.cells #[.int .i64 x, .int .i64 y] 40)
  have hB : ∀ a b, Below w.heap.size w ((w.alloc a).alloc b) := fun _ _ => ((Below.refl _ w).alloc (Nat.le_refl _) _).alloc (by simp) _
  have o0 := KO.cell 0
  have r0 := KR.cell 0
  have HB := Lib.hid hB
  clear KO KR hB
  go_enter Tryz.func54, Tryz.ntmps54
  go_wp2
  all_goals (
    go_ret
    refine ⟨?_, HB.out _ _⟩
    first
      | (simp_all [countsB]; done)
      | (rename_i g0 g6 g7
         have e6 : (k0 != 6) = true := by simpa using g6
         have e7 : (k0 != 7) = true := by simpa using g7
         show Ending.returned (.bool (k0 != 6 && k0 != 7 && k0 != 8)) = _
         rw [e6, e7]
         subst g0
         have e8 : countsB ⟨k0, k1, k2, k3, k4, k5, k6⟩ 0 = (k0 != 8) := by
           unfold countsB
           rw [Bool.eq_iff_iff]
           simp [g6, g7]
         rw [e8]
         rfl))
end Go.Proofs.YtcodpnbemdflcaaGreatDoor

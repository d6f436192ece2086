/-
  A strings.Builder of the call's own: a text is written behind, the whole is told: contracts.
  Package redo: the text of a record that lies in the ring, and whether all its pieces are there: a contract.
  Plain mathematics of records in a ring: the pieces of a list of texts, one behind the other, and what is left of them. No program, no condition.
-/
import Derived.Test.YtcodpnbemdflcaaGreatDoorTg33
import Derived.Lib.Builder
import Derived.Lib.UnsafeStr
import Derived.Laws.Externs
import Derived.RegionTactic
import Derived.Laws.StructEq
import Derived.Deep.CutBlock
import Derived.Deep.DeepCutAuto
namespace Go.Proofs.YtcodpnbemdflcaaGreatDoor
open Go.RowKit
def BdAt (w:World) (b base:Nat) (l:List UInt8):Prop := ∃ (a v:Value),Whole w b 168 [a,v]∧(a = .pointer none∨a = .pointer (some ⟨b,0,none⟩))∧Own 5 w base v l∧v.ownBlock≠some b
theorem bdAt_new (w:World):BdAt (w.alloc (.cells #[.pointer none, .slice none 0 0] 168)) w.heap.size w.heap.size [] :=
 ⟨_,_,Whole.new w _ _, .inl rfl,Own.nil,by simp [Value.ownBlock]⟩
theorem whole_shape {w:World} {g:Nat} {t:TypeId} {cs:List Value} (h:Whole w g t cs):w.shape? g=some (t,cs.length):=by
 unfold Whole at h
 simp [World.shape?,h]
section
variable {w w':World} {b base:Nat} {l:List UInt8}
theorem BdAt.lt (h:BdAt w b base l):b < w.heap.size:=by
 obtain ⟨a,v,h1,_⟩:=h
 exact h1.lt
theorem BdAt.below (h:BdAt w b base l) (hb:Below w.heap.size w w'):BdAt w' b base l:=by
 obtain ⟨a,v,h1,h2,h3,h4⟩:=h
 exact ⟨a,v,h1.below hb,h2,h3.below hb,h4⟩
set_option maxRecDepth 100000 in
set_option maxHeartbeats 1000000 in
theorem copyCheck_any {a v:Value} (h:Whole w b 168 [a,v]) (ha:a = .pointer none∨a = .pointer (some ⟨b,0,none⟩)) :
  Calls Tryz.prog 154 #[.pointer (some ⟨b,0,none⟩)] w fun e w'=>e = .returned (.tuple #[])∧Whole w' b 168 [.pointer (some ⟨b,0,none⟩),v]∧w.grownBy w' (some b):=by
 have c0:=h.cell 0
 have c1:=h.free 0
 have hs:=h.set 0 (.pointer (some ⟨b,0,none⟩))
 have hsh:=whole_shape h
 simp only [List.getElem?_cons_zero] at c0
 have H1:=Lib.hid h
 have HS:=Lib.hid hs
 obtain ⟨j,hj,hz0,hz1,hz2⟩:=info_parts Tryz.infoBld
 have hl:liesAt Tryz.prog Tryz.prog.depth 168 (2 / Tryz.prog.cellsOf 168) 0 168 1=true:=by kernel_rfl
 have Hl:=Lib.hid hl
 have Hj:=Lib.hid (And.intro hj hz1)
 clear h hs hl hj hz0 hz1 hz2
 rcases ha with rfl | rfl
 ·go_enter Tryz.func154,Tryz.ntmps154
  go_wp2
  rw [Lib.run_to_unsafe w ⟨b,0,none⟩ Tryz.underlying166 Tryz.underlying276 Hj.out.1 (by rw [Hj.out.2];decide) hsh (Nat.zero_lt_succ 1)]
  simp only [Result.andThen]
  rw [Oper.upon_value]
  go_wp2
  rw [run_callFunc_extern Tryz.func203 (by kernel_rfl) (by kernel_rfl) (by kernel_rfl) (e:=Extern.AbiNoEscape.same) (by kernel_rfl)]
  rw [Lib.run_noEscape]
  simp only [Result.andThen]
  rw [Oper.upon_value]
  go_wp2
  rw [Lib.run_from_unsafe w ⟨b,0,none⟩ Tryz.underlying276 Tryz.underlying166 Hj.out.1 hsh Hl.out]
  simp only [Result.andThen]
  rw [Oper.upon_value]
  go_wp2
  go_end0
  exact ⟨rfl,HS.out,grown_set _ _ _ _⟩
 ·go_enter Tryz.func154,Tryz.ntmps154
  go_wp2
  rw [Lib.run_neq_ptr_same w _ Tryz.underlying166 Hj.out.1]
  go_wp2
  go_end0
  exact ⟨rfl,H1.out,grown_refl _ _⟩
set_option maxRecDepth 20000 in
set_option maxHeartbeats 1000000 in
theorem writeString_any (h:BdAt w b base l) (hb:base≤w.heap.size) (hbb:base≤b) (t:ByteArray) (hle:l.length+t.size≤1000000) :
  Calls Tryz.prog 110 #[.pointer (some ⟨b,0,none⟩), .string t] w fun e w'=>(∃ v,e = .returned v)∧BdAt w' b base (l++t.data.toList)∧Below base w w' ∧ ∀ (x:Nat) (u:TypeId) (cs:List Value),Whole w x u cs→u≠5→x≠b→Whole w' x u cs:=by
 obtain ⟨a,v,h1,h2,h3,h4⟩:=h
 have hc:=copyCheck_any h1 h2
 have H3:=Lib.hid h3
 have H4:=Lib.hid h4
 have H1:=Lib.hid h1
 clear h1 h2 h3 h4
 go_enter Tryz.func110,Tryz.ntmps110
 go_wp2_with fail
 refine hc.mono ?_
 rintro e w1 ⟨rfl,hk,hg⟩
 have h3:Own 5 w1 base v l:=H3.out.keep fun k hk=>hg.block k (H3.out.lt k hk).2 (by rintro e;exact H4.out (hk.trans e))
 obtain ⟨A,c,hv,_,_,_⟩:=h3.shape
 have c1:=hk.cell 1
 simp only [List.getElem?_cons_succ,List.getElem?_cons_zero] at c1
 have hsz:=hg.size
 obtain ⟨v2,w2,hap,hown2,hg2⟩:=run_app_string (P:=Tryz.prog) base 93 9 93 5 Tryz.underlying93 Tryz.underlying9 Tryz.infoU8 v l h3 t (by omega) (by omega)
 have hk2:=hk.keep (hg2.block b hk.lt (fun e=>H4.out e.symm))
 obtain ⟨M,hM⟩ : ∃ M,(l++t.data.toList).length=M:=⟨_,rfl⟩
 obtain ⟨A2,c2,hv2,_,_,_⟩:=hown2.shapeN hM
 clear hM
 have d1:=hk2.cell 1
 have f1:=hk2.free 1
 simp only [List.getElem?_cons_succ,List.getElem?_cons_zero] at d1
 have hne2:v2.ownBlock≠some b:=by
  rcases hown2.2 with ⟨e,_⟩ | ⟨g,cap,cur,e,_,hh,_⟩
  ·rw [e]
   simp [Value.ownBlock]
  ·rw [e]
   intro hq
   have:g=b:=by simpa [Value.ownBlock] using hq
   subst this
   unfold Whole at hk2
   rw [hk2] at hh
   injection hh with hh
   injection hh with _ ht
   exact absurd ht (by decide)
 have hk3:=hk2.set 1 v2
 have hgs:=grown_set w2 b 1 v2
 have hown3:Own 5 (w2.setCell ⟨b,1,none⟩ v2) base v2 (l++t.data.toList):=hown2.keep fun k hk=>hgs.block k (hown2.lt k hk).2 (by rintro e;exact hne2 (hk.trans e))
 have hB1:Below base w w1:=(Below.refl base w).grown hg hb fun k hk=>by injection hk with hk;omega
 have hB2:Below base w w2:=hB1.grown hg2 (by omega) fun k hk=>(h3.lt k hk).1
 have hB3:Below base w (w2.setCell ⟨b,1,none⟩ v2):=below_grown hB2 hgs (by have:=hg2.size;omega) hbb
 have hkeep : ∀ (x:Nat) (u:TypeId) (cs:List Value),Whole w x u cs→u≠5→x≠b→Whole (w2.setCell ⟨b,1,none⟩ v2) x u cs:=fun x u cs hx hu hne=>by
  have hx1:=hx.grown hg hne
  have hx2:Whole w2 x u cs:=hx1.keep (hg2.block x hx1.lt (fun e=>by
   rcases h3.2 with ⟨e',_⟩ | ⟨g,cap,cur,e',_,hh,_⟩
   ·rw [e'] at e
    simp [Value.ownBlock] at e
   ·rw [e'] at e
    have:g=x:=by simpa [Value.ownBlock] using e.symm
    subst this
    unfold Whole at hx1
    rw [hx1] at hh
    injection hh with hh
    injection hh with _ q
    exact hu q))
  exact hx2.grown hgs hne
 have HKP:=Lib.hid hkeep
 clear hkeep
 have HF:=Lib.hid (And.intro hk3 (And.intro hown3 (And.intro hne2 hB3)))
 clear hc hk hg h3 hown2 hg2 hk2 hk3 hgs hown3 hB1 hB2 hB3 hne2
 subst hv hv2
 dsimp only
 go_wp2_with (at_builtin;refine wpList_append_run hap rfl _ _ rfl rfl rfl rfl ?_)
 go_ret2
 exact ⟨⟨_,rfl⟩,⟨_,_,HF.out.1, .inr rfl,HF.out.2.1,HF.out.2.2.1⟩,HF.out.2.2.2,HKP.out⟩
set_option maxRecDepth 100000 in
set_option maxHeartbeats 1000000 in
theorem string_any (h:BdAt w b base l) (h0:l ≠ []) (hl:l.length≤1000000) :
  Calls Tryz.prog 113 #[.pointer (some ⟨b,0,none⟩)] w fun e w'=>e = .returned (.string ⟨l.toArray⟩)∧Below base w w':=by
 obtain ⟨a,v,h1,h2,h3,h4⟩:=h
 have hpos:0 < l.length:=by
  cases l with
  | nil=>exact absurd rfl h0
  | cons x r=>simp
 obtain ⟨A,c,hv,hc,hm,hr⟩:=h3.shape
 have hg : ∃ g cap cur,v = .slice (some ⟨g,0,none⟩) l.length cap∧base≤g∧w.heap[g]? = some (.cells cur 5 (0,0))∧l.length≤cap∧cap≤maxLen∧cur.size=cap*1:=by
  rcases h3.2 with ⟨_,hz⟩ | ⟨g,cap,cur,hv,r1,r2,r3,r4,r5,_⟩
  ·omega
  ·exact ⟨g,cap,cur,hv,r1,r2,r3,r4,r5⟩
 obtain ⟨g,cap,cur,hv2,hbg,hgb,hnc,hcm,hcs⟩:=hg
 subst hv2
 have c1:w.drew.cell? ⟨b,1,none⟩=some (.slice (some ⟨g,0,none⟩) l.length cap):=h1.cell 1
 have hSD:(Builtin.unsafeSliceData_ #[93] 237 #[.slice (some ⟨g,0,none⟩) l.length cap]).run Tryz.prog w.drew = .ok (.pointer (some ⟨g,0,none⟩)) w.drew :=
  Lib.run_unsafeSliceData_row _ _ _ _ _ _ (by omega)
 have hUS:(Builtin.unsafeString_ #[237,3] 9 #[.pointer (some ⟨g,0,none⟩), .int .i64 l.length]).run Tryz.prog w.drew = .ok (.string ⟨l.toArray⟩) (w.drew.freeze ⟨g,0,none⟩ l.length):=by
  refine Lib.run_unsafeString_row w.drew 237 3 9 5 Tryz.underlying237 (by kernel_rfl) g cur.size (by have hg':w.drew.heap[g]? = some (.cells cur 5 (0,0)):=hgb;simp [World.shape?,hg']) l h0 (by omega) (by unfold maxLen at hcm;omega) ?_
  intro j x hx
  have:=World.ownsRow.cells h3 (g:=g) rfl j (.int .u8 x.toNat) (by simp [bvs,bv,hx])
  exact this
 have hbelow:Below base w (w.drew.freeze ⟨g,0,none⟩ l.length):=Lib.below_freeze (Below.drew (Below.refl base w)) (p:=⟨g,0,none⟩) hbg _
 have HB:=Lib.hid hbelow
 clear hbelow h1 h2 h3 h4 hr hv hgb hcs
 go_enter Tryz.func113,Tryz.ntmps113
 go_wp2
 go_region
 all_goals (go_wp2;go_ret;exact ⟨rfl,HB.out⟩)
end
end Go.Proofs.YtcodpnbemdflcaaGreatDoor
namespace Go.Proofs.YtcodpnbemdflcaaGreatDoor
open Go.RowKit
def recT (R:Nat→Ct) (n p:Nat) (m:Nat):List UInt8:=(List.range m).flatMap fun i=>(R ((p+i) % n)).tx
theorem recT_succ (R:Nat→Ct) (n p m:Nat):recT R n p (m+1)=recT R n p m++(R ((p+m) % n)).tx:=by simp [recT,List.range_succ]
theorem recT_len {R:Nat→Ct} {n p:Nat} (hR : ∀ j,j < n→(R j).tx.length≤36) (hn:0 < n) (m:Nat):(recT R n p m).length≤36*m:=by
 induction m with
 | zero=>simp [recT]
 | succ m ih =>
  rw [recT_succ,List.length_append]
  have:=hR ((p+m) % n) (Nat.mod_lt _ hn)
  omega
def PcOk (R:Nat→Ct) (n p ag nu sz i:Nat):Prop:=(R ((p+i) % n)).kd=2∧(R ((p+i) % n)).ag=ag∧(R ((p+i) % n)).nu=nu∧(R ((p+i) % n)).pl=i∧(R ((p+i) % n)).sz=sz
def RecPost (w:World) (R:Nat→Ct) (n p ag nu sz:Nat) (e:Ending) (w':World):Prop :=
 Below w.heap.size w w'∧((∀ i,i < np sz→PcOk R n p ag nu sz i)∧e = .returned (.tuple #[.string ⟨(recT R n p (np sz)).toArray⟩, .bool true])∨(∃ i,i < np sz ∧ ¬ PcOk R n p ag nu sz i)∧e = .returned (.tuple #[.string ⟨#[]⟩, .bool false]))
def RecRel (w:World) (R:Nat→Ct) (n p ag nu sz wb bb:Nat) (i:Value) (wr:World):Prop :=
 ∃ k:Nat,k≤np sz∧i = .int .i64 (k:Int)∧(∃ x:Int,Whole wr wb 150 [.int .i64 2, .int .i64 (ag:Int), .int .i64 (nu:Int), .int .i64 x, .int .i64 (sz:Int)])∧BdAt wr bb w.heap.size (recT R n p k)∧Below w.heap.size w wr ∧ ∀ i,i < k→PcOk R n p ag nu sz i
theorem run_neq_head (a0 a1 a2 a3 a4 b0 b1 b2 b3 b4:Int) (W:World):(binOp .neq 150 (.agg #[.int .i64 a0, .int .i64 a1, .int .i64 a2, .int .i64 a3, .int .i64 a4]) (.agg #[.int .i64 b0, .int .i64 b1, .int .i64 b2, .int .i64 b3, .int .i64 b4])).run Tryz.prog W =
  .ok (.bool (!decide (a0=b0∧a1=b1∧a2=b2∧a3=b3∧a4=b4))) W:=by
 have u3:=Tryz.underlying3
 have a3':=Tryz.isAgg3
 have z3:=Tryz.sizeOf3
 have u5:=Tryz.underlying148
 have a5':=Tryz.isAgg148
 have z5:=Tryz.sizeOf148
 have hS:Tryz.prog.underlying 150=some (.struct (Tryz.prog.fieldsOf 150)):=by kernel_rfl
 have hp:Tryz.prog.stoodInHeld 150=false:=by kernel_rfl
 rw [run_neq_struct,show (10000:Nat)=9999+1 from rfl,run_equalIn_agg W 9999 150 _ _ hS hp]
 simp only [Program.fieldsOf,Tryz.underlying150]
 go_simp
 by_cases h0:a0=b0 <;> by_cases h1:a1=b1 <;> by_cases h2:a2=b2 <;> by_cases h3:a3=b3 <;> by_cases h4:a4=b4 <;> simp [h0,h1,h2,h3,h4]
theorem BdAt.mono {w:World} {b base base':Nat} {l:List UInt8} (h:BdAt w b base l) (hb:base'≤base):BdAt w b base' l:=by
 obtain ⟨a,v,h1,h2,h3,h4⟩:=h
 exact ⟨a,v,h1,h2,h3.mono hb,h4⟩
theorem BdAt.grown {w w':World} {b base r:Nat} {l:List UInt8} (h:BdAt w b base l) (hg:w.grownBy w' (some r)) (hb:b≠r) (hr : ∀ a v,Whole w b 168 [a,v]→v.ownBlock≠some r):BdAt w' b base l:=by
 obtain ⟨a,v,h1,h2,h3,h4⟩:=h
 exact ⟨a,v,h1.grown hg hb,h2,h3.keep fun k hk=>hg.block k (h3.lt k hk).2 (fun e=>hr a v h1 (hk.trans e)),h4⟩
theorem BdAt.other {w w':World} {b base r:Nat} {l:List UInt8} {t:TypeId} {cs:List Value} (h:BdAt w b base l) (hk:Whole w r t cs) (ht:t≠5) (ht2:t≠168) (hg:w.grownBy w' (some r)):BdAt w' b base l:=by
 obtain ⟨a,v,h1,h2,h3,h4⟩:=h
 refine ⟨a,v,h1.grown hg (h1.ne hk (Ne.symm ht2)),h2,h3.keep fun k hk'=>hg.block k (h3.lt k hk').2 (fun e => ?_),h4⟩
 injection e with e
 subst e
 rcases h3.2 with ⟨e,_⟩ | ⟨g,cap,cur,e,_,hh,_⟩
 ·rw [e] at hk'
  simp [Value.ownBlock] at hk'
 ·rw [e] at hk'
  have:g=k:=by simpa [Value.ownBlock] using hk'
  subst this
  unfold Whole at hk
  rw [hk] at hh
  injection hh with hh
  injection hh with _ q
  exact ht q
set_option maxRecDepth 20000 in
set_option maxHeartbeats 2000000 in
theorem record_any {w:World} {b off n c p ag nu sz:Nat} {R:Nat→Ct} (h:RowCt w b off n R) (h1:1≤n) (h2:n≤1024) (hp:p < n) (h3:sz≤1024) (hR : ∀ j,j < n→(R j).tx.length≤36)
  (hne:(∀ i,i < np sz→PcOk R n p ag nu sz i)→recT R n p (np sz) ≠ []) :
  Calls Tryz.prog 152 #[.slice (some ⟨b,off,none⟩) n c, .int .i64 (p:Int), .agg #[.int .i64 2, .int .i64 (ag:Int), .int .i64 (nu:Int), .int .i64 0, .int .i64 (sz:Int)]] w (RecPost w R n p ag nu sz):=by
 have hnp:np sz≤29:=by unfold np;omega
 have HR:=Lib.hid h
 have HX:=Lib.hid hR
 have HN:=Lib.hid hne
 have hkp:=fun W=>pieces_any sz (by omega) W
 clear h hR hne
 go_enter Tryz.func152,Tryz.ntmps152
 go_wp2_with (go_at_call 93;refine (hkp _).mono ?_;rintro e w1 ⟨rfl,hw1⟩;subst hw1)
 have K1:=(Whole.new w #[.int .i64 2, .int .i64 (ag:Int), .int .i64 (nu:Int), .int .i64 0, .int .i64 (sz:Int)] 150).alloc (.cells #[.pointer none, .slice none 0 0] 168)
 have K2:=bdAt_new (w.alloc (.cells #[.int .i64 2, .int .i64 (ag:Int), .int .i64 (nu:Int), .int .i64 0, .int .i64 (sz:Int)] 150))
 have hB:Below w.heap.size w ((w.alloc (.cells #[.int .i64 2, .int .i64 (ag:Int), .int .i64 (nu:Int), .int .i64 0, .int .i64 (sz:Int)] 150)).alloc (.cells #[.pointer none, .slice none 0 0] 168)):=((Below.refl _ _).alloc (Nat.le_refl _) _).alloc (by simp) _
 have K2:=K2.mono (base':=w.heap.size) (by simp)
 rw [show (w.alloc (.cells #[.int .i64 2, .int .i64 (ag:Int), .int .i64 (nu:Int), .int .i64 0, .int .i64 (sz:Int)] 150)).heap.size=w.heap.size+1 by simp] at K2
 generalize (w.alloc (.cells #[.int .i64 2, .int .i64 (ag:Int), .int .i64 (nu:Int), .int .i64 0, .int .i64 (sz:Int)] 150)).alloc (.cells #[.pointer none, .slice none 0 0] 168)=W at K1 K2 hB ⊢
 generalize hwb:w.heap.size=wb at K1 ⊢
 rw [show w.heap.size+1=wb+1 by rw [hwb]] at K2
 have Hwb:=Lib.hid hwb
 clear hwb hkp
 go_loopw [14] (fun i wr=>RecRel w R n p ag nu sz wb (wb+1) i wr) (fun i _=>np sz - (Go.RowKit.intOf i).toNat)
 case atStart=>exact ⟨0,Nat.zero_le _,rfl,⟨0,K1⟩,K2,hB,fun i hi=>absurd hi (by omega)⟩
 case round =>
  obtain ⟨k,hk,rfl,⟨x,hK⟩,hD,hBw,hall⟩:=hrel
  clear K1 K2 hB
  have HA:=Lib.hid hall
  have HD:=Lib.hid hD
  have HB:=Lib.hid hBw
  clear hall
  by_cases hlt:k < np sz
  ·obtain ⟨j,hj⟩ : ∃ j,j=(p+k) % n:=⟨_,rfl⟩
   have hjn:j < n:=by rw [hj];exact Nat.mod_lt _ (by omega)
   have hm1:((p:Int)+(k:Int)) % (n:Int)=(j:Int):=by rw [hj,Int.natCast_emod,Int.natCast_add]
   have hm2:Int.tmod ((p:Int)+(k:Int)) (n:Int)=(j:Int):=by rw [Int.tmod_eq_emod_of_nonneg (by omega),hm1]
   have x3:=hK.cell 3
   have f3:=hK.free 3
   simp only [List.getElem?_cons_succ,List.getElem?_cons_zero] at x3
   have hK1:Whole (wr.setCell ⟨wb,3,none⟩ (.int .i64 (k:Int))) wb 150 [.int .i64 2, .int .i64 (ag:Int), .int .i64 (nu:Int), .int .i64 (k:Int), .int .i64 (sz:Int)]:=hK.set 3 (.int .i64 (k:Int))
   have hg1:=grown_set wr wb 3 (.int .i64 (k:Int))
   have hbw:b≠wb:=by have:=HR.out.lt;have:=Hwb.out;omega
   have hR1:=(HR.out.below hBw).grown hg1 hbw
   have hD1:=hD.other hK (by decide) (by decide) hg1
   have hB1:=below_grown hBw hg1 hBw.size (by have:=Hwb.out;omega)
   obtain ⟨c0,c1,c2,c3,c4,c5⟩:=hR1.get j hjn
   have HK1:=Lib.hid hK1
   have HD1:=Lib.hid hD1
   have HB1:=Lib.hid hB1
   have HJ:=Lib.hid hj
   clear hK hD hBw hK1 hD1 hB1 hR1 hg1 hj HD HB
   unfold sv at c5
   go_upto_region 7 with (fail)
   clear c0 c1 c2 c3 c4 c5 x3 f3 hm1 hm2
   have K3:=Whole.new (wr.setCell ⟨wb,3,none⟩ (.int .i64 (k:Int))) #[.int .i64 ((R j).kd:Int), .int .i64 ((R j).ag:Int), .int .i64 ((R j).nu:Int), .int .i64 ((R j).pl:Int), .int .i64 ((R j).sz:Int), .string ⟨(R j).tx.toArray⟩] 152
   rw [show (wr.setCell ⟨wb,3,none⟩ (.int .i64 (k:Int))).heap.size=wr.heap.size by simp [World.setCell]] at K3
   have hK2:=HK1.out.alloc (.cells #[.int .i64 ((R j).kd:Int), .int .i64 ((R j).ag:Int), .int .i64 ((R j).nu:Int), .int .i64 ((R j).pl:Int), .int .i64 ((R j).sz:Int), .string ⟨(R j).tx.toArray⟩] 152)
   have hD2:=HD1.out.below ((Below.refl _ _).alloc (Nat.le_refl _) (.cells #[.int .i64 ((R j).kd:Int), .int .i64 ((R j).ag:Int), .int .i64 ((R j).nu:Int), .int .i64 ((R j).pl:Int), .int .i64 ((R j).sz:Int), .string ⟨(R j).tx.toArray⟩] 152))
   have hB2:=HB1.out.alloc HB1.out.size (.cells #[.int .i64 ((R j).kd:Int), .int .i64 ((R j).ag:Int), .int .i64 ((R j).nu:Int), .int .i64 ((R j).pl:Int), .int .i64 ((R j).sz:Int), .string ⟨(R j).tx.toArray⟩] 152)
   generalize (wr.setCell ⟨wb,3,none⟩ (.int .i64 (k:Int))).alloc (.cells #[.int .i64 ((R j).kd:Int), .int .i64 ((R j).ag:Int), .int .i64 ((R j).nu:Int), .int .i64 ((R j).pl:Int), .int .i64 ((R j).sz:Int), .string ⟨(R j).tx.toArray⟩] 152)=W2 at K3 hK2 hD2 hB2 ⊢
   generalize wr.heap.size=cb at K3 ⊢
   have hok:PcOk R n p ag nu sz k ↔ (R j).kd=2∧(R j).ag=ag∧(R j).nu=nu∧(R j).pl=k∧(R j).sz=sz:=by rw [PcOk, ← HJ.out]
   have HOK:=Lib.hid hok
   have htx:recT R n p (k+1)=recT R n p k++(R j).tx:=by rw [recT_succ, ← HJ.out]
   have HTX:=Lib.hid htx
   have hl1:=recT_len HX.out h1 (p:=p) k
   have hl2:=HX.out j hjn
   have HL:=Lib.hid (And.intro hl1 hl2)
   have y0:=K3.cell 0
   have y1:=K3.cell 1
   have y2:=K3.cell 2
   have y3:=K3.cell 3
   have y4:=K3.cell 4
   have y5:=K3.cell 5
   have z0:=hK2.cell 0
   have z1:=hK2.cell 1
   have z2:=hK2.cell 2
   have z3:=hK2.cell 3
   have z4:=hK2.cell 4
   simp only [List.getElem?_cons_succ,List.getElem?_cons_zero] at y0 y1 y2 y3 y4 y5 z0 z1 z2 z3 z4
   have HK3:=Lib.hid K3
   have HK2:=Lib.hid hK2
   have HD2:=Lib.hid hD2
   have HB2:=Lib.hid hB2
   clear hok htx hl1 hl2 K3 hK2 hD2 hB2 HK1 HD1 HB1
   generalize (R j).kd=a0 at *
   generalize (R j).ag=a1 at *
   generalize (R j).nu=a2 at *
   generalize (R j).pl=a3 at *
   generalize (R j).sz=a4 at *
   have q:=run_neq_head a0 a1 a2 a3 a4 2 ag nu k sz
   by_cases hq:a0=2∧a1=ag∧a2=nu∧a3=k∧a4=sz
   ·rw [show decide ((a0:Int)=2∧(a1:Int)=ag∧(a2:Int)=nu∧(a3:Int)=k∧(a4:Int)=sz)=true from decide_eq_true (by omega)] at q
    have HQ:=Lib.hid (HOK.out.2 hq)
    simp only [Bool.not_true] at q
    clear hq
    have hws:=writeString_any HD2.out HB2.out.size (by have:=Hwb.out;omega) ⟨(R j).tx.toArray⟩ (by
     have:=HL.out
     show _+(R j).tx.toArray.size≤_
     simp
     omega)
    have HWS:=Lib.hid hws
    clear hws
    have hwb:wb≠wb+1:=by omega
    go_wp2_with (go_at_call 110;refine HWS.out.mono ?_;rintro e w3 ⟨⟨v3,rfl⟩,hD3,hB3,hkp⟩)
    refine ⟨⟨k+1,hlt,by go_num,⟨_,hkp _ _ _ HK2.out (by decide) hwb⟩,by rw [HTX.out];exact hD3,HB2.out.trans hB3,fun i hi => ?_⟩,by simp [Go.RowKit.intOf];omega⟩
    by_cases e:i=k
    ·subst e
     exact HQ.out
    ·exact HA.out i (by omega)
   ·rw [show decide ((a0:Int)=2∧(a1:Int)=ag∧(a2:Int)=nu∧(a3:Int)=k∧(a4:Int)=sz)=false from decide_eq_false (by omega)] at q
    have HQ:=Lib.hid (fun e=>hq (HOK.out.1 e))
    simp only [Bool.not_false] at q
    clear hq
    go_wp2
    go_ret2
    exact ⟨HB2.out, .inr ⟨⟨k,hlt,HQ.out⟩,rfl⟩⟩
  ·obtain rfl:k=np sz:=by omega
   clear hlt
   have hS:=string_any HD.out (HN.out HA.out) (by have:=recT_len HX.out h1 (p:=p) (np sz);omega)
   go_wp2_with (go_at_call 113;refine hS.mono ?_;rintro e w3 ⟨rfl,hB3⟩)
   go_ret2
   exact ⟨HB.out.trans hB3, .inl ⟨HA.out,rfl⟩⟩
end Go.Proofs.YtcodpnbemdflcaaGreatDoor
namespace Go.Proofs.YtcodpnbemdflcaaGreatDoor
def pc (ag nu:Nat) (t:List UInt8) (i:Nat):Ct:=⟨2,ag,nu,i,t.length,(t.drop (36*i)).take 36⟩
def off (L:List (List UInt8)) (m:Nat):Nat:=((L.take m).map fun t=>np t.length).sum
theorem off_zero (L:List (List UInt8)):off L 0=0:=rfl
theorem off_succ {L:List (List UInt8)} {m:Nat} {t:List UInt8} (h:L[m]? = some t):off L (m+1)=off L m+np t.length:=by
 rw [off,off,List.take_add_one,h]
 simp
theorem off_mono (L:List (List UInt8)) {m k:Nat} (h:m≤k):off L m≤off L k:=by
 induction k with
 | zero =>
  obtain rfl:m=0:=by omega
  exact Nat.le_refl _
 | succ k ih =>
  by_cases e:m=k+1
  ·subst e
   exact Nat.le_refl _
  ·refine Nat.le_trans (ih (by omega)) ?_
   cases hx:L[k]? with
   | some t=>rw [off_succ hx];omega
   | none =>
    rw [off,off,List.take_add_one,hx]
    simp
theorem parts_take (t:List UInt8) (k:Nat):((List.range k).flatMap fun i=>(t.drop (36*i)).take 36)=t.take (36*k):=by
 induction k with
 | zero=>simp
 | succ k ih =>
  rw [List.range_succ,List.flatMap_append,ih,Nat.mul_succ,List.take_add]
  simp
theorem parts_all (t:List UInt8):((List.range (np t.length)).flatMap fun i=>(t.drop (36*i)).take 36)=t:=by
 rw [parts_take,List.take_of_length_le]
 unfold np
 omega
end Go.Proofs.YtcodpnbemdflcaaGreatDoor

/-
  The document's OpAlloc: contract.
-/
import Derived.Test.YtkbggbgnnllmjaaGreatDoorMg36
import Derived.Test.YtkbggbgnnllmjaaGreatDoorMg28
import Derived.Test.YtkbggbgnnllmjaaGreatDoorMg27
namespace Go.Proofs.YtkbggbgnnllmjaaGreatDoor
open Go.RowKit

/-- An object comes to the row. -/
theorem AlMem.snoc {w V W' : World} {base : Nat} {hc oc rc qc : List Value} {v vF : Value} {os : List (Ob × OSl)} {fr : List Blk} (M : AlMem w base hc oc rc qc v vF os fr V) (hb : base ≤ w.heap.size) (bw : Below V.heap.size V W') (x : Ob) (a : OSl) (hw : OwnV 3 W' V.heap.size a.wv (ivs x.ws)) (hl : OwnV 3 W' V.heap.size a.lv (ivs x.ls)) (hn : (twoB a).Nodup) (hle : os.length + 1 ≤ 1000000) (ty : TypeId) :
    ∃ A' n' c' w', (Builtin.append_ #[22, 22] ty #[v, .slice (some ⟨W'.heap.size, 0, none⟩) 1 1]).run Tryz.prog (W'.alloc (.cells #[.int .i64 x.hd, .int .i64 x.bl.1, .int .i64 x.bl.2, a.wv, a.lv] 52)) = .ok (.slice A' n' c') w' ∧ W'.grownBy w' v.ownBlock ∧ AlMem w base hc oc rc qc (.slice A' n' c') vF (os ++ [(x, a)]) fr w' := by
  have M' := M.below bw hb
  have hsz := M.size
  have hd : ∀ k ∈ twoB a, k ∉ blocksOf os := fun k hk e => by
    have h1 := (M.own.lt k e).2
    rcases mem_two.1 hk with e2 | e2
    · have := (hw.lt k e2).1; omega
    · have := (hl.lt k e2).1; omega
  obtain ⟨v', w', hap, hrow, hg, hv'⟩ := run_appO (P := Tryz.prog) 22 ty Tryz.underlying22 Tryz.infoOb rfl M'.own.row (x, a) hw.oneCell hl.oneCell hle (by have := M'.size; omega)
  have hos := M'.own.snoc (by decide) (p := (x, a)) (hw.mono (by omega)) (hl.mono (by omega)) hn hd hrow hg
  obtain ⟨A', c', hv⟩ := row_shape hrow rfl
  subst hv
  have hK : ∀ {b : Nat} {t : TypeId} {cs : List Value}, w.heap.size ≤ b → b ≤ w.heap.size + 1 + 1 + 1 → Whole W' b t cs → Whole w' b t cs := fun {b} {t} {cs} h1 h2 K => K.keep (hg.block b K.lt fun e => by have := M.nob.1 b e.symm; omega)
  refine ⟨A', _, c', w', hap, hg, hK (Nat.le_refl _) (by omega) M'.kh, hK (by omega) (by omega) M'.ko, hK (by omega) (by omega) M'.kr, hK (by omega) (by omega) M'.kq, hos, ⟨fun k hk => ?_, fun k hk => ?_, M.nob.2.2⟩, ?_, ?_⟩
  · rcases hv' with e | ⟨k', e, h⟩
    · exact M.nob.1 k (by rw [← e]; exact hk)
    · rw [e] at hk
      injection hk with hk
      have := bw.size
      omega
  · rw [blocksOf_snoc] at hk
    rcases List.mem_append.1 hk with e | e
    · exact M.nob.2.1 k e
    · rcases mem_two.1 e with e2 | e2
      · have := (hw.lt k e2).1; omega
      · have := (hl.lt k e2).1; omega
  · exact M'.fr.keep fun k hk => hg.block k (M'.fr.lt k hk).2 fun e => by
      obtain ⟨c1, h1⟩ := row_type M'.own.row e.symm
      obtain ⟨c2, h2⟩ := row_type M'.fr hk
      exact absurd (heap_types h1 h2) (by decide)
  · exact M'.bel.grown hg (by have := M'.size; omega) fun k hk => (M'.own.row_lt k hk).1
/-- What a make of a new object leaves. -/
def AlX (V : World) (nx : Int) (b : Blk) (n1 n2 : Nat) (v : Value) (wc : World) : Prop :=
  ∃ bx A1 c1 A2 c2, v = .pointer (some ⟨bx, 0, none⟩) ∧ Whole wc bx 52 [.int .i64 nx, .int .i64 b.1, .int .i64 b.2, .slice A1 n1 c1, .slice A2 n2 c2] ∧ OwnV 3 wc V.heap.size (.slice A1 n1 c1) (ivs (List.replicate n1 0)) ∧ OwnV 3 wc V.heap.size (.slice A2 n2 c2) (ivs (List.replicate n2 0)) ∧ V.heap.size ≤ bx ∧ (twoB ⟨.slice A1 n1 c1, .slice A2 n2 c2⟩).Nodup ∧ Below V.heap.size V wc

theorem alx_mk {V wc : World} {nx : Int} {b : Blk} {n1 n2 bx a1 a2 : Nat} (h1 : n1 ≤ 1000) (h2 : n2 ≤ 1000) (Kx : Whole wc bx 52 [.int .i64 nx, .int .i64 b.1, .int .i64 b.2, .slice (some ⟨a1, 0, none⟩) n1 n1, .slice (some ⟨a2, 0, none⟩) n2 n2]) (K1 : Whole wc a1 3 (reps n1 (.int .i64 0))) (K2 : Whole wc a2 3 (reps n2 (.int .i64 0))) (g0 : V.heap.size ≤ bx) (g1 : V.heap.size ≤ a1) (g2 : V.heap.size ≤ a2) (hne : a1 ≠ a2) (bl : Below V.heap.size V wc) : AlX V nx b n1 n2 (.pointer (some ⟨bx, 0, none⟩)) wc := by
  have o1 := K1.own (base := V.heap.size) g1 (by rw [reps_length]; simp only [maxLen]; omega)
  have o2 := K2.own (base := V.heap.size) g2 (by rw [reps_length]; simp only [maxLen]; omega)
  rw [reps_length, ivs_zero] at o1 o2
  exact ⟨bx, _, _, _, _, rfl, Kx, o1, o2, g0, by unfold twoB; exact nodup_two fun i j hi hj => by simp [Value.ownBlock] at hi hj; omega, bl⟩
theorem three_at (V : World) (c1 c2 c3 : Array Value) (t1 t2 t3 : TypeId) :
    Whole (((V.alloc (.cells c1 t1)).alloc (.cells c2 t2)).alloc (.cells c3 t3)).drew V.heap.size t1 c1.toList ∧ Whole (((V.alloc (.cells c1 t1)).alloc (.cells c2 t2)).alloc (.cells c3 t3)).drew (V.heap.size + 1) t2 c2.toList ∧ Whole (((V.alloc (.cells c1 t1)).alloc (.cells c2 t2)).alloc (.cells c3 t3)).drew (V.heap.size + 1 + 1) t3 c3.toList ∧ Below V.heap.size V (((V.alloc (.cells c1 t1)).alloc (.cells c2 t2)).alloc (.cells c3 t3)).drew := by
  have z1 : (V.alloc (.cells c1 t1)).heap.size = V.heap.size + 1 := by simp
  have z2 : ((V.alloc (.cells c1 t1)).alloc (.cells c2 t2)).heap.size = V.heap.size + 1 + 1 := by simp
  have k1 := Whole.new (V.alloc (.cells c1 t1)) c2 t2
  have k2 := Whole.new ((V.alloc (.cells c1 t1)).alloc (.cells c2 t2)) c3 t3
  rw [z1] at k1
  rw [z2] at k2
  exact ⟨(((Whole.new V c1 t1).alloc _).alloc _).drew, (k1.alloc _).drew, k2.drew, ((((Grew.refl V).alloc _).alloc _).alloc _).drew.below⟩
/-- All but two blocks stay. -/
def Bes (p q : Nat) (W W' : World) : Prop := W.heap.size ≤ W'.heap.size ∧ ∀ k, k < W.heap.size → k ≠ p → k ≠ q → W'.heap[k]? = W.heap[k]?
theorem Bes.refl (p q : Nat) (W : World) : Bes p q W W := ⟨Nat.le_refl _, fun _ _ _ _ => rfl⟩
theorem Bes.p {p q : Nat} {W W' : World} (h : Bes p q W W') (j : Nat) (u : Value) : Bes p q W (W'.setCell ⟨p, j, none⟩ u) :=
  have g := grown_set W' p j u
  ⟨Nat.le_trans h.1 g.size, fun k hk h1 h2 => (g.block k (Nat.lt_of_lt_of_le hk h.1) (fun e => by injection e with e; exact h1 e)).trans (h.2 k hk h1 h2)⟩
theorem Bes.q {p q : Nat} {W W' : World} (h : Bes p q W W') (j : Nat) (u : Value) : Bes p q W (W'.setCell ⟨q, j, none⟩ u) :=
  have g := grown_set W' q j u
  ⟨Nat.le_trans h.1 g.size, fun k hk h1 h2 => (g.block k (Nat.lt_of_lt_of_le hk h.1) (fun e => by injection e with e; exact h2 e)).trans (h.2 k hk h1 h2)⟩
theorem Bes.drew {p q : Nat} {W W' : World} (h : Bes p q W W') : Bes p q W W'.drew := h
theorem Bes.whole {p q g : Nat} {t : TypeId} {cs : List Value} {W W' : World} (h : Bes p q W W') (K : Whole W g t cs) (h1 : g ≠ p) (h2 : g ≠ q) : Whole W' g t cs := K.keep (h.2 g K.lt h1 h2)

set_option maxRecDepth 100000 in
set_option maxHeartbeats 4000000 in
theorem refAlloc_neg (s : HSl) (os : List (Ob × OSl)) (H : Hp) (o : Opn) (w : World) (base : Nat) (O : OwnHp w base s os H) (hb : base ≤ w.heap.size) (hR : RightH H) (hn : s.n ≤ 1000) (hm : s.m ≤ 1000) (hneg : needI o.n o.kk < 0):
    Calls Tryz.prog 72 #[hval H s, opv o] w (InPost w base (allocH H o.n o.kk)) := by
  have Hr := Lib.hid (show allocH H o.n o.kk = (H, 53, 0) from by unfold allocH; rw [if_pos hneg])
  have FM := FnMem.start w (hcs H s) (opcs o)
  have S1 := fun W => refNeed_any o.n o.kk W
  have hN := needI_bd o.n o.kk
  have hlenF := O.rd.fr.len
  have HO := Lib.hid O
  have HR := Lib.hid hR
  have hod := hR.fr.1
  have hnx := hR.nx
  obtain ⟨A, n, c, F, m, d⟩ := s
  simp only at hn hm hlenF
  generalize hNq : needI o.n o.kk = N at *
  obtain ⟨ok, oh, oi, on, okk, ov, ot⟩ := o
  have HNq := Lib.hid hNq
  clear O hR hNq
  simp only [hval, hcs, opv, opcs, zcs, rcs] at *
  go_enter Tryz.func72, Tryz.ntmps72
  go_upto_region 1 with (fail)
  generalize (((w.alloc (.cells _ 26)).alloc (.cells _ 29)).alloc (.cells _ 26)).alloc (.cells _ 34) = W at FM ⊢
  have M := AlMem.start HO.out FM hb
  have k0 := M.kh.cell 0
  have k1 := M.kh.cell 1
  have k2 := M.kh.cell 2
  have k3 := M.kh.cell 3
  have k4 := M.kh.cell 4
  have k5 := M.kh.cell 5
  have k6 := M.kh.cell 6
  have k7 := M.kh.cell 7
  have p3 := M.ko.cell 3
  have p4 := M.ko.cell 4
  have r0 := M.kr.cell 0
  have r1 := M.kr.cell 1
  have r2 := M.kr.cell 2
  have r3 := M.kr.cell 3
  have r4 := M.kr.cell 4
  have r5 := M.kr.cell 5
  have r6 := M.kr.cell 6
  have r7 := M.kr.cell 7
  have q0 := M.kq.cell 0
  have q1 := M.kq.cell 1
  simp only [zcs, rcs, List.getElem?_cons_succ, List.getElem?_cons_zero] at k0 k1 k2 k3 k4 k5 k6 k7 p3 p4 r0 r1 r2 r3 r4 r5 r6 r7 q0 q1
  have fr := M.kr.free
  have fq := M.kq.free
  have g1 : decide (N < 0) = true := decide_eq_true hneg
  have Hf := Lib.hid (M.fin hb (.int .i64 H.od) (.slice A n c) (.int .i64 H.nx) (.int .i64 (tget H 0)) (.int .i64 (tget H 1)) (.int .i64 (tget H 2)) (.int .i64 (tget H 3)) (.slice F m d) (.int .i64 53) (.int .i64 0))
  clear M hneg
  go_wp2_with (go_at_call 65; refine (S1 _).mono ?_; rintro e w2 ⟨rfl, rfl⟩)
  refine bodyPost_ret (results_two rfl _ _ (w.heap.size + 1 + 1) (w.heap.size + 1 + 1 + 1) rfl rfl Hf.out.kr Hf.out.kq) rfl ?_
  rw [Hr.out]
  exact ⟨⟨A, n, c, F, m, d⟩, os, rfl, Hf.out.heapOf rfl rfl HO.out.obs rfl HO.out.tp HO.out.nx, Hf.out.bel⟩
set_option maxRecDepth 100000 in
set_option maxHeartbeats 4000000 in
theorem refAlloc_lim (s : HSl) (os : List (Ob × OSl)) (H : Hp) (o : Opn) (w : World) (base : Nat) (O : OwnHp w base s os H) (hb : base ≤ w.heap.size) (hR : RightH H) (hn : s.n ≤ 1000) (hm : s.m ≤ 1000) (hpos : 0 ≤ needI o.n o.kk) (hbig : 1000000 < H.nx):
    Calls Tryz.prog 72 #[hval H s, opv o] w (InPost w base (allocH H o.n o.kk)) := by
  have Hr := Lib.hid (show allocH H o.n o.kk = (H, 2, 0) from by unfold allocH; rw [if_neg (by omega), if_pos (by omega)])
  have FM := FnMem.start w (hcs H s) (opcs o)
  have S1 := fun W => refNeed_any o.n o.kk W
  have hN := needI_bd o.n o.kk
  have hlenF := O.rd.fr.len
  have HO := Lib.hid O
  have HR := Lib.hid hR
  have hod := hR.fr.1
  have hnx := hR.nx
  obtain ⟨A, n, c, F, m, d⟩ := s
  simp only at hn hm hlenF
  generalize hNq : needI o.n o.kk = N at *
  obtain ⟨ok, oh, oi, on, okk, ov, ot⟩ := o
  have HNq := Lib.hid hNq
  clear O hR hNq
  simp only [hval, hcs, opv, opcs, zcs, rcs] at *
  go_enter Tryz.func72, Tryz.ntmps72
  go_upto_region 1 with (fail)
  generalize (((w.alloc (.cells _ 26)).alloc (.cells _ 29)).alloc (.cells _ 26)).alloc (.cells _ 34) = W at FM ⊢
  have M := AlMem.start HO.out FM hb
  have k0 := M.kh.cell 0
  have k1 := M.kh.cell 1
  have k2 := M.kh.cell 2
  have k3 := M.kh.cell 3
  have k4 := M.kh.cell 4
  have k5 := M.kh.cell 5
  have k6 := M.kh.cell 6
  have k7 := M.kh.cell 7
  have p3 := M.ko.cell 3
  have p4 := M.ko.cell 4
  have r0 := M.kr.cell 0
  have r1 := M.kr.cell 1
  have r2 := M.kr.cell 2
  have r3 := M.kr.cell 3
  have r4 := M.kr.cell 4
  have r5 := M.kr.cell 5
  have r6 := M.kr.cell 6
  have r7 := M.kr.cell 7
  have q0 := M.kq.cell 0
  have q1 := M.kq.cell 1
  simp only [zcs, rcs, List.getElem?_cons_succ, List.getElem?_cons_zero] at k0 k1 k2 k3 k4 k5 k6 k7 p3 p4 r0 r1 r2 r3 r4 r5 r6 r7 q0 q1
  have fr := M.kr.free
  have fq := M.kq.free
  have g1 : decide (N < 0) = false := decide_eq_false (by omega)
  have g2 : decide (1000000 < H.nx) = true := decide_eq_true hbig
  have Hf := Lib.hid (M.fin hb (.int .i64 H.od) (.slice A n c) (.int .i64 H.nx) (.int .i64 (tget H 0)) (.int .i64 (tget H 1)) (.int .i64 (tget H 2)) (.int .i64 (tget H 3)) (.slice F m d) (.int .i64 2) (.int .i64 0))
  clear M hbig hpos
  go_wp2_with (go_at_call 65; refine (S1 _).mono ?_; rintro e w2 ⟨rfl, rfl⟩)
  refine bodyPost_ret (results_two rfl _ _ (w.heap.size + 1 + 1) (w.heap.size + 1 + 1 + 1) rfl rfl Hf.out.kr Hf.out.kq) rfl ?_
  rw [Hr.out]
  exact ⟨⟨A, n, c, F, m, d⟩, os, rfl, Hf.out.heapOf rfl rfl HO.out.obs rfl HO.out.tp HO.out.nx, Hf.out.bel⟩
set_option maxRecDepth 100000 in
set_option maxHeartbeats 4000000 in
theorem refAlloc_full (s : HSl) (os : List (Ob × OSl)) (H : Hp) (o : Opn) (w : World) (base : Nat) (O : OwnHp w base s os H) (hb : base ≤ w.heap.size) (hR : RightH H) (hn : s.n ≤ 1000) (hm : s.m ≤ 1000) (hpos : 0 ≤ needI o.n o.kk) (hle : H.nx ≤ 1000000) (hroom : roomB H.fr (needI o.n o.kk) = false):
    Calls Tryz.prog 72 #[hval H s, opv o] w (InPost w base (allocH H o.n o.kk)) := by
  have Hr := Lib.hid (show allocH H o.n o.kk = (H, 50, 0) from by unfold allocH; rw [if_neg (by omega), if_neg (by omega), hroom]; rfl)
  have FM := FnMem.start w (hcs H s) (opcs o)
  have S1 := fun W => refNeed_any o.n o.kk W
  have hN := needI_bd o.n o.kk
  have hlenF := O.rd.fr.len
  have HO := Lib.hid O
  have HR := Lib.hid hR
  have hod := hR.fr.1
  have hnx := hR.nx
  obtain ⟨A, n, c, F, m, d⟩ := s
  simp only at hn hm hlenF
  have hmr := mayTk_room hR hpos
  have S2 := fun (W : World) (bl : Below w.heap.size w W) => refTake_any H.od F m d H.fr (needI o.n o.kk) W (O.rd.fr.below bl) hm
  have hmt : needI o.n o.kk ≤ H.od → mayTk H.od H.fr (needI o.n o.kk) = true := fun h => by
    unfold mayTk
    rw [decide_eq_true hR.fr, decide_eq_true hpos, decide_eq_true h]
    rfl
  generalize hNq : needI o.n o.kk = N at *
  obtain ⟨ok, oh, oi, on, okk, ov, ot⟩ := o
  have HNq := Lib.hid hNq
  clear O hR hNq
  simp only [hval, hcs, opv, opcs, zcs, rcs] at *
  go_enter Tryz.func72, Tryz.ntmps72
  go_upto_region 1 with (fail)
  generalize (((w.alloc (.cells _ 26)).alloc (.cells _ 29)).alloc (.cells _ 26)).alloc (.cells _ 34) = W at FM ⊢
  have M := AlMem.start HO.out FM hb
  have k0 := M.kh.cell 0
  have k1 := M.kh.cell 1
  have k2 := M.kh.cell 2
  have k3 := M.kh.cell 3
  have k4 := M.kh.cell 4
  have k5 := M.kh.cell 5
  have k6 := M.kh.cell 6
  have k7 := M.kh.cell 7
  have p3 := M.ko.cell 3
  have p4 := M.ko.cell 4
  have r0 := M.kr.cell 0
  have r1 := M.kr.cell 1
  have r2 := M.kr.cell 2
  have r3 := M.kr.cell 3
  have r4 := M.kr.cell 4
  have r5 := M.kr.cell 5
  have r6 := M.kr.cell 6
  have r7 := M.kr.cell 7
  have q0 := M.kq.cell 0
  have q1 := M.kq.cell 1
  simp only [zcs, rcs, List.getElem?_cons_succ, List.getElem?_cons_zero] at k0 k1 k2 k3 k4 k5 k6 k7 p3 p4 r0 r1 r2 r3 r4 r5 r6 r7 q0 q1
  have fr := M.kr.free
  have fq := M.kq.free
  have g1 : decide (N < 0) = false := decide_eq_false (by omega)
  have g2 : decide (1000000 < H.nx) = false := decide_eq_false (by omega)
  by_cases hbo : H.od < N
  · have g3 : decide (H.od < N) = true := decide_eq_true hbo
    have Hf := Lib.hid (M.fin hb (.int .i64 H.od) (.slice A n c) (.int .i64 H.nx) (.int .i64 (tget H 0)) (.int .i64 (tget H 1)) (.int .i64 (tget H 2)) (.int .i64 (tget H 3)) (.slice F m d) (.int .i64 50) (.int .i64 0))
    clear M hpos hle hbo S2 hmt hmr
    go_wp2_with (go_at_call 65; refine (S1 _).mono ?_; rintro e w2 ⟨rfl, rfl⟩)
    refine bodyPost_ret (results_two rfl _ _ (w.heap.size + 1 + 1) (w.heap.size + 1 + 1 + 1) rfl rfl Hf.out.kr Hf.out.kq) rfl ?_
    rw [Hr.out]
    exact ⟨⟨A, n, c, F, m, d⟩, os, rfl, Hf.out.heapOf rfl rfl HO.out.obs rfl HO.out.tp HO.out.nx, Hf.out.bel⟩
  have g3 : decide (H.od < N) = false := decide_eq_false hbo
  have hm2 := hmt (by omega)
  have S3 := (S2 W FM.bel).mono fun e w' h => (by
    obtain ⟨b', m2, er, v, rfl, hres, ho, hbl⟩ := h
    obtain ⟨rfl, rfl, rfl⟩ := hres.eq (.inr (.inl ⟨hm2, hroom, rfl, rfl, rfl⟩))
    obtain ⟨F', d', rfl, _⟩ := ho.shape rfl
    exact ⟨F', _, d', rfl, ho, hbl⟩ : ∃ F' m' d', e = .returned (.tuple #[.agg #[.int .i64 0, .int .i64 0], .slice F' m' d', .int .i64 40]) ∧ OwnB 49 w' W.heap.size (.slice F' m' d') [] ∧ Below W.heap.size W w')
  have HM := Lib.hid M
  clear S2 hmt hmr hbo hpos hle r0 r1 r2 r3 r4 r5 r6 r7 q0 q1 fr fq FM M
  go_upto_region 9 with (first
    | (go_at_call 65; refine (S1 _).mono ?_; rintro e w2 ⟨rfl, rfl⟩)
    | (go_at_call 98; refine S3.mono ?_; rintro e w3 ⟨F', m', d', rfl, o3, b3⟩))
  have M2 := (HM.out.below b3 hb).below ((Below.refl w3.heap.size w3).alloc (Nat.le_refl _) (.cells #[.int .i64 0, .int .i64 0] 49)) hb
  clear o3 b3 S3 k0 k1 k2 k3 k4 k5 k6 k7 p3 p4 hm2 hroom
  obtain ⟨kb, hkb⟩ : ∃ kb, kb = w3.heap.size := ⟨_, rfl⟩
  rw [← hkb]
  clear hkb
  generalize w3.alloc (.cells _ 49) = M4W at M2 ⊢
  have M := M2
  have k0 := M.kh.cell 0
  have k1 := M.kh.cell 1
  have k2 := M.kh.cell 2
  have k3 := M.kh.cell 3
  have k4 := M.kh.cell 4
  have k5 := M.kh.cell 5
  have k6 := M.kh.cell 6
  have k7 := M.kh.cell 7
  have r0 := M.kr.cell 0
  have r1 := M.kr.cell 1
  have r2 := M.kr.cell 2
  have r3 := M.kr.cell 3
  have r4 := M.kr.cell 4
  have r5 := M.kr.cell 5
  have r6 := M.kr.cell 6
  have r7 := M.kr.cell 7
  have q0 := M.kq.cell 0
  have q1 := M.kq.cell 1
  simp only [zcs, rcs, List.getElem?_cons_succ, List.getElem?_cons_zero] at k0 k1 k2 k3 k4 k5 k6 k7 r0 r1 r2 r3 r4 r5 r6 r7 q0 q1
  have fr := M.kr.free
  have fq := M.kq.free
  have Hf := Lib.hid (M.fin hb (.int .i64 H.od) (.slice A n c) (.int .i64 H.nx) (.int .i64 (tget H 0)) (.int .i64 (tget H 1)) (.int .i64 (tget H 2)) (.int .i64 (tget H 3)) (.slice F m d) (.int .i64 50) (.int .i64 0))
  clear M M2 HM
  go_wp2
  refine bodyPost_ret (results_two rfl _ _ (w.heap.size + 1 + 1) (w.heap.size + 1 + 1 + 1) rfl rfl Hf.out.kr Hf.out.kq) rfl ?_
  rw [Hr.out]
  exact ⟨⟨A, n, c, F, m, d⟩, os, rfl, Hf.out.heapOf rfl rfl HO.out.obs rfl HO.out.tp HO.out.nx, Hf.out.bel⟩
set_option maxRecDepth 100000 in
set_option maxHeartbeats 4000000 in
theorem refAlloc_took (s : HSl) (os : List (Ob × OSl)) (H : Hp) (o : Opn) (w : World) (base : Nat) (O : OwnHp w base s os H) (hb : base ≤ w.heap.size) (hR : RightH H) (hn : s.n ≤ 1000) (hm : s.m ≤ 1000) (hpos : 0 ≤ needI o.n o.kk) (hle : H.nx ≤ 1000000) (hroom : roomB H.fr (needI o.n o.kk) = true) {b : Blk} {ml : List Blk} (htk : Took H.fr (needI o.n o.kk) b ml):
    Calls Tryz.prog 72 #[hval H s, opv o] w (InPost w base (allocH H o.n o.kk)) := by
  have Hr := Lib.hid (show allocH H o.n o.kk = ({ H with obs := H.obs ++ [⟨H.nx, b, List.replicate o.n.toNat 0, List.replicate o.kk.toNat 0⟩], nx := H.nx + 1, fr := ml }, 0, H.nx) from by
    unfold allocH
    rw [if_neg (by omega), if_neg (by omega), hroom, if_neg (by simp), takeF_eq htk])
  have hin := needI_in hpos
  have FM := FnMem.start w (hcs H s) (opcs o)
  have S1 := fun W => refNeed_any o.n o.kk W
  have hN := needI_bd o.n o.kk
  have hlenF := O.rd.fr.len
  have HO := Lib.hid O
  have HR := Lib.hid hR
  have hod := hR.fr.1
  have hnx := hR.nx
  obtain ⟨A, n, c, F, m, d⟩ := s
  simp only at hn hm hlenF
  have hmr := mayTk_room hR hpos
  have hro := room_le hR.fr hroom
  have S2 := fun (W : World) (bl : Below w.heap.size w W) => refTake_any H.od F m d H.fr (needI o.n o.kk) W (O.rd.fr.below bl) hm
  have hlos : os.length + 1 ≤ 1000000 := by have := hR.len; rw [O.obs, List.length_map] at this; omega
  generalize hNq : needI o.n o.kk = N at *
  obtain ⟨ok, oh, oi, on, okk, ov, ot⟩ := o
  have HNq := Lib.hid hNq
  clear O hR hNq
  simp only [hval, hcs, opv, opcs, zcs, rcs] at *
  go_enter Tryz.func72, Tryz.ntmps72
  go_upto_region 1 with (fail)
  generalize (((w.alloc (.cells _ 26)).alloc (.cells _ 29)).alloc (.cells _ 26)).alloc (.cells _ 34) = W at FM ⊢
  have M := AlMem.start HO.out FM hb
  have k0 := M.kh.cell 0
  have k1 := M.kh.cell 1
  have k2 := M.kh.cell 2
  have k3 := M.kh.cell 3
  have k4 := M.kh.cell 4
  have k5 := M.kh.cell 5
  have k6 := M.kh.cell 6
  have k7 := M.kh.cell 7
  have p3 := M.ko.cell 3
  have p4 := M.ko.cell 4
  have r0 := M.kr.cell 0
  have r1 := M.kr.cell 1
  have r2 := M.kr.cell 2
  have r3 := M.kr.cell 3
  have r4 := M.kr.cell 4
  have r5 := M.kr.cell 5
  have r6 := M.kr.cell 6
  have r7 := M.kr.cell 7
  have q0 := M.kq.cell 0
  have q1 := M.kq.cell 1
  simp only [zcs, rcs, List.getElem?_cons_succ, List.getElem?_cons_zero] at k0 k1 k2 k3 k4 k5 k6 k7 p3 p4 r0 r1 r2 r3 r4 r5 r6 r7 q0 q1
  have fr := M.kr.free
  have fq := M.kq.free
  have g1 : decide (N < 0) = false := decide_eq_false (by omega)
  have g2 : decide (1000000 < H.nx) = false := decide_eq_false (by omega)
  have g3 : decide (H.od < N) = false := decide_eq_false (by omega)
  rw [hroom, Bool.and_true] at hmr
  have S3 := (S2 W FM.bel).mono fun e w' h => (by
    obtain ⟨b', m2, er, v, rfl, hres, ho, hbl⟩ := h
    obtain ⟨rfl, rfl, rfl⟩ := hres.eq (.inr (.inr ⟨hmr, hroom, rfl, htk⟩))
    obtain ⟨F', d', rfl, _⟩ := ho.shape rfl
    exact ⟨F', _, d', rfl, ho, hbl⟩ : ∃ F' m' d', e = .returned (.tuple #[.agg #[.int .i64 b.1, .int .i64 b.2], .slice F' m' d', .int .i64 0]) ∧ OwnB 49 w' W.heap.size (.slice F' m' d') ml ∧ Below W.heap.size W w')
  obtain ⟨n1, hn1⟩ := Int.eq_ofNat_of_zero_le hin.1
  obtain ⟨n2, hn2⟩ := Int.eq_ofNat_of_zero_le hin.2.2.1
  subst hn1 hn2
  rw [Int.toNat_natCast, Int.toNat_natCast] at Hr
  have h32 : n1 ≤ 32 := by omega
  have h16 : n2 ≤ 16 := by omega
  have HM := Lib.hid M
  clear S2 hin hpos r0 r1 r2 r3 r4 r5 r6 r7 q0 q1 fr fq FM M hro
  go_upto_region 9 with (first
    | (go_at_call 65; refine (S1 _).mono ?_; rintro e w2 ⟨rfl, rfl⟩)
    | (go_at_call 98; refine S3.mono ?_; rintro e w3 ⟨F', m', d', rfl, o3, b3⟩))
  have ba := (Below.refl w3.heap.size w3).alloc (Nat.le_refl _) (.cells #[.int .i64 b.1, .int .i64 b.2] 49)
  have M2 := (HM.out.putF hb b3 o3).below ba hb
  have KB := Whole.new w3 #[.int .i64 b.1, .int .i64 b.2] 49
  clear o3 b3 S3 k0 k1 k2 k3 k4 k5 k6 k7 p3 p4 hmr hroom htk ba
  obtain ⟨kb, hkb⟩ : ∃ kb, kb = w3.heap.size := ⟨_, rfl⟩
  rw [← hkb] at KB ⊢
  clear hkb
  generalize w3.alloc (.cells _ 49) = V at M2 KB ⊢
  have mk1 := fun W => run_makeV (P := Tryz.prog) Tryz.underlying50 Tryz.infoInt rfl n1 (by omega) (by omega) W
  have mk2 := fun W => run_makeV (P := Tryz.prog) Tryz.underlying50 Tryz.infoInt rfl n2 (by omega) (by omega) W
  have HM2 := Lib.hid M2
  have HKB := Lib.hid KB
  have mkS := Lib.hid fun (W' : World) (bl : Below V.heap.size V W') => (⟨(HM2.out.kh.below bl).cell 2, (HKB.out.below bl).cell 0, (HKB.out.below bl).cell 1, (HM2.out.ko.below bl).cell 3, (HM2.out.ko.below bl).cell 4⟩ : W'.cell? ⟨w.heap.size, 2, none⟩ = some (.int .i64 H.nx) ∧ W'.cell? ⟨kb, 0, none⟩ = some (.int .i64 b.1) ∧ W'.cell? ⟨kb, 1, none⟩ = some (.int .i64 b.2) ∧ W'.cell? ⟨w.heap.size + 1, 3, none⟩ = some (.int .i64 (n1 : Int)) ∧ W'.cell? ⟨w.heap.size + 1, 4, none⟩ = some (.int .i64 (n2 : Int)))
  clear M2 KB
  go_upto_region 11 with (fail)
  go_cut [10] (AlX V H.nx b n1 n2)
  case first =>
    go_region_held3 (fun W' => W'.cell? ⟨w.heap.size, 2, none⟩ = some (.int .i64 H.nx) ∧ W'.cell? ⟨kb, 0, none⟩ = some (.int .i64 b.1) ∧ W'.cell? ⟨kb, 1, none⟩ = some (.int .i64 b.2) ∧ W'.cell? ⟨w.heap.size + 1, 3, none⟩ = some (.int .i64 (n1 : Int)) ∧ W'.cell? ⟨w.heap.size + 1, 4, none⟩ = some (.int .i64 (n2 : Int))) (((with_reducible refine mkS.out _ ?_); ((repeat (first | (with_reducible refine bel_alloc ?_ _) | (with_reducible refine Below.setCell ?_ (by dsimp only; first | omega | (simp; omega)) _) | (with_reducible refine Below.drew ?_))); first | (with_reducible exact Below.refl _ _) | (with_reducible exact trivial)))) (fail)
    · go_wp2_with fail
      go_meet

      exact alx_mk (by omega) (by omega) (three_at V _ _ _ _ _ _).2.2.1 (three_at V _ _ _ _ _ _).1 (three_at V _ _ _ _ _ _).2.1 (by omega) (by omega) (by omega) (by omega) (three_at V _ _ _ _ _ _).2.2.2
    · go_wp2_with fail
      go_meet

      exact alx_mk (by omega) (by omega) (three_at V _ _ _ _ _ _).2.1 (three_at V _ _ _ _ _ _).1 (three_at V _ _ _ _ _ _).2.2.1 (by omega) (by omega) (by omega) (by omega) (three_at V _ _ _ _ _ _).2.2.2
    · go_wp2_with fail
      go_meet

      exact alx_mk (by omega) (by omega) (three_at V _ _ _ _ _ _).2.2.1 (three_at V _ _ _ _ _ _).2.1 (three_at V _ _ _ _ _ _).1 (by omega) (by omega) (by omega) (by omega) (three_at V _ _ _ _ _ _).2.2.2
    · go_wp2_with fail
      go_meet

      exact alx_mk (by omega) (by omega) (three_at V _ _ _ _ _ _).2.1 (three_at V _ _ _ _ _ _).2.2.1 (three_at V _ _ _ _ _ _).1 (by omega) (by omega) (by omega) (by omega) (three_at V _ _ _ _ _ _).2.2.2
    · go_wp2_with fail
      go_meet

      exact alx_mk (by omega) (by omega) (three_at V _ _ _ _ _ _).1 (three_at V _ _ _ _ _ _).2.1 (three_at V _ _ _ _ _ _).2.2.1 (by omega) (by omega) (by omega) (by omega) (three_at V _ _ _ _ _ _).2.2.2
    · go_wp2_with fail
      go_meet

      exact alx_mk (by omega) (by omega) (three_at V _ _ _ _ _ _).1 (three_at V _ _ _ _ _ _).2.2.1 (three_at V _ _ _ _ _ _).2.1 (by omega) (by omega) (by omega) (by omega) (three_at V _ _ _ _ _ _).2.2.2
  case rest =>
    obtain ⟨bx, A1, c1, A2, c2, rfl, Kx, o1, o2, hbx, hnd, bl⟩ := hcut
    obtain ⟨A', n', c', w', hap, hg, MN⟩ := HM2.out.snoc hb bl ⟨H.nx, b, List.replicate n1 0, List.replicate n2 0⟩ ⟨.slice A1 n1 c1, .slice A2 n2 c2⟩ o1 o2 hnd hlos 22
    simp only at hap
    have hsz := HM2.out.size
    have kc1 := (HM2.out.kh.below bl).cell 1
    simp only [List.getElem?_cons_succ, List.getElem?_cons_zero] at kc1
    obtain ⟨x0, x1, x2, x3, x4⟩ : _ ∧ _ ∧ _ ∧ _ ∧ _ := ⟨Kx.cell 0, Kx.cell 1, Kx.cell 2, Kx.cell 3, Kx.cell 4⟩
    simp only [List.getElem?_cons_succ, List.getElem?_cons_zero] at x0 x1 x2 x3 x4
    have Kx' := Kx.keep (hg.block bx Kx.lt fun e => by have := (HM2.out.own.row_lt bx e.symm).2; omega)
    have y1 := MN.kh.cell 1
    have f1 := MN.kh.free 1
    have M3 := MN.heap hb 1 (.slice A' n' c')
    have Kx3 := Kx'.grown (grown_set w' w.heap.size 1 (.slice A' n' c')) (by omega)
    simp only [List.getElem?_cons_succ, List.getElem?_cons_zero, List.set_cons_succ, List.set_cons_zero] at y1 M3
    have HKx3 := Lib.hid Kx3
    have HM3 := Lib.hid M3
    clear Kx Kx' Kx3 MN M3 hg o1 o2 hnd mk1 mk2 mkS HM2 HKB bl
    go_upto_region 13 with (at_builtin; refine wpList_append_run hap rfl _ _ rfl rfl rfl rfl ?_)
    clear hap x0 x1 x2 x3 x4 y1 f1 kc1
    have M3 := HM3.out
    have Kx3 := HKx3.out
    clear HM3 HKx3
    generalize w'.setCell ⟨w.heap.size, 1, none⟩ (.slice A' n' c') = W3 at M3 Kx3 ⊢
    have y7 := M3.kh.cell 7
    have f7 := M3.kh.free 7
    have M4 := M3.heap hb 7 (.slice F' m' d')
    have Kx4 := Kx3.grown (grown_set W3 w.heap.size 7 (.slice F' m' d')) (by omega)
    simp only [List.getElem?_cons_succ, List.getElem?_cons_zero, List.set_cons_succ, List.set_cons_zero] at y7 M4
    have HM4 := Lib.hid M4
    have HKx4 := Lib.hid Kx4
    clear M3 Kx3 M4 Kx4
    go_upto_region 14 with (fail)
    clear y7 f7
    have M4 := HM4.out
    have Kx4 := HKx4.out
    clear HM4 HKx4
    generalize W3.setCell ⟨w.heap.size, 7, none⟩ (.slice F' m' d') = W4 at M4 Kx4 ⊢
    have y2 := M4.kh.cell 2
    have f2 := M4.kh.free 2
    have M5 := M4.heap hb 2 (.int .i64 (H.nx + 1))
    have Kx5 := Kx4.grown (grown_set W4 w.heap.size 2 (.int .i64 (H.nx + 1))) (by omega)
    have hw : IntKind.i64.wrap (H.nx + 1) = H.nx + 1 := by rw [IntKind.wrap_i64]; omega
    simp only [List.getElem?_cons_succ, List.getElem?_cons_zero, List.set_cons_succ, List.set_cons_zero] at y2 M5
    have HM5 := Lib.hid M5
    have HKx5 := Lib.hid Kx5
    clear M4 Kx4 M5 Kx5
    go_upto_region 15 with (fail)
    clear y2 f2 hw
    have M5 := HM5.out
    have Kx5 := HKx5.out
    clear HM5 HKx5
    generalize W4.setCell ⟨w.heap.size, 2, none⟩ (.int .i64 (H.nx + 1)) = W5 at M5 Kx5 ⊢
    have mkS := Lib.hid fun (W' : World) (bl : Bes (w.heap.size + 1 + 1) (w.heap.size + 1 + 1 + 1) W5 W') => (by
      obtain ⟨a0, a1, a2, a3, a4, a5, a6, a7⟩ := (bl.whole M5.kh (by omega) (by omega)).eight
      exact ⟨a0, a1, a2, a3, a4, a5, a6, a7, (bl.whole Kx5 (by omega) (by omega)).cell 0⟩ : W'.cell? ⟨w.heap.size, 0, none⟩ = some (.int .i64 H.od) ∧ W'.cell? ⟨w.heap.size, 1, none⟩ = some (.slice A' n' c') ∧ W'.cell? ⟨w.heap.size, 2, none⟩ = some (.int .i64 (H.nx + 1)) ∧ W'.cell? ⟨w.heap.size, 3, none⟩ = some (.int .i64 (tget H 0)) ∧ W'.cell? ⟨w.heap.size, 4, none⟩ = some (.int .i64 (tget H 1)) ∧ W'.cell? ⟨w.heap.size, 5, none⟩ = some (.int .i64 (tget H 2)) ∧ W'.cell? ⟨w.heap.size, 6, none⟩ = some (.int .i64 (tget H 3)) ∧ W'.cell? ⟨w.heap.size, 7, none⟩ = some (.slice F' m' d') ∧ W'.cell? ⟨bx, 0, none⟩ = some (.int .i64 H.nx))
    have r0 := M5.kr.cell 0
    have r1 := M5.kr.cell 1
    have r2 := M5.kr.cell 2
    have r3 := M5.kr.cell 3
    have r4 := M5.kr.cell 4
    have r5 := M5.kr.cell 5
    have r6 := M5.kr.cell 6
    have r7 := M5.kr.cell 7
    have q0 := M5.kq.cell 0
    have q1 := M5.kq.cell 1
    simp only [zcs, rcs, List.getElem?_cons_succ, List.getElem?_cons_zero] at r0 r1 r2 r3 r4 r5 r6 r7 q0 q1
    have fr := M5.kr.free
    have fq := M5.kq.free
    have Hf := Lib.hid (M5.fin hb (.int .i64 H.od) (.slice A' n' c') (.int .i64 (H.nx + 1)) (.int .i64 (tget H 0)) (.int .i64 (tget H 1)) (.int .i64 (tget H 2)) (.int .i64 (tget H 3)) (.slice F' m' d') (.int .i64 0) (.int .i64 H.nx))
    clear M5 Kx5
    go_region_held3 (fun W' => W'.cell? ⟨w.heap.size, 0, none⟩ = some (.int .i64 H.od) ∧ W'.cell? ⟨w.heap.size, 1, none⟩ = some (.slice A' n' c') ∧ W'.cell? ⟨w.heap.size, 2, none⟩ = some (.int .i64 (H.nx + 1)) ∧ W'.cell? ⟨w.heap.size, 3, none⟩ = some (.int .i64 (tget H 0)) ∧ W'.cell? ⟨w.heap.size, 4, none⟩ = some (.int .i64 (tget H 1)) ∧ W'.cell? ⟨w.heap.size, 5, none⟩ = some (.int .i64 (tget H 2)) ∧ W'.cell? ⟨w.heap.size, 6, none⟩ = some (.int .i64 (tget H 3)) ∧ W'.cell? ⟨w.heap.size, 7, none⟩ = some (.slice F' m' d') ∧ W'.cell? ⟨bx, 0, none⟩ = some (.int .i64 H.nx)) (((with_reducible refine mkS.out _ ?_); ((repeat (first | (with_reducible refine Bes.p ?_ _ _) | (with_reducible refine Bes.q ?_ _ _) | (with_reducible refine Bes.drew ?_))); (with_reducible exact Bes.refl _ _ _)))) (fail)
    all_goals
      go_wp2
      refine bodyPost_ret (results_two rfl _ _ (w.heap.size + 1 + 1) (w.heap.size + 1 + 1 + 1) rfl rfl Hf.out.kr.drew Hf.out.kq.drew) rfl ?_
      rw [Hr.out]
      exact ⟨⟨A', n', c', F', m', d'⟩, os ++ [(⟨H.nx, b, List.replicate n1 0, List.replicate n2 0⟩, ⟨.slice A1 n1 c1, .slice A2 n2 c2⟩)], rfl, (Hf.out.heapOf (H := { H with obs := H.obs ++ [⟨H.nx, b, List.replicate n1 0, List.replicate n2 0⟩], nx := H.nx + 1, fr := ml }) rfl rfl (by show H.obs ++ [_] = _; rw [List.map_append, HO.out.obs]; rfl) rfl HO.out.tp (by show H.nx + 1 ≤ _; omega)).below (Below.refl _ _).drew, Hf.out.bel.drew⟩
/-- The document's OpAlloc. -/
theorem refAlloc_any (s : HSl) (os : List (Ob × OSl)) (H : Hp) (o : Opn) (w : World) (base : Nat) (O : OwnHp w base s os H) (hb : base ≤ w.heap.size) (hR : RightH H) (hn : s.n ≤ 1000) (hm : s.m ≤ 1000) :
    Calls Tryz.prog 72 #[hval H s, opv o] w (InPost w base (allocH H o.n o.kk)) := by
  rcases allocH_cases hR o.n o.kk with ⟨hneg, _⟩ | ⟨hpos, hbig, _⟩ | ⟨hpos, hle, hroom, _⟩ | ⟨hpos, hle, hroom, b, ml, htk, _⟩
  · exact refAlloc_neg s os H o w base O hb hR hn hm hneg
  · exact refAlloc_lim s os H o w base O hb hR hn hm hpos hbig
  · exact refAlloc_full s os H o w base O hb hR hn hm hpos hle hroom
  · exact refAlloc_took s os H o w base O hb hR hn hm hpos hle hroom htk
end Go.Proofs.YtkbggbgnnllmjaaGreatDoor

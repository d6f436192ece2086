/-
  The document's operations on roots: contract. Words for functions that take a heap and an operation.
  A word, a link, a handle of an object of the call's own is written over. Plain lemmas over any program.
  The law's helper that writes over a heap: contract.
  The law's helper that writes over a heap: the walk.
-/
import Derived.Test.YtkbggbgnnllmjaaGreatDoorMg17
import Derived.BigRegion
namespace Go.Proofs.YtkbggbgnnllmjaaGreatDoor
open Go.RowKit

def opcs (o : Opn) : List Value := [.int .i64 o.k, .int .i64 o.h, .int .i64 o.i, .int .i64 o.n, .int .i64 o.kk, .int .i64 o.v, .int .i64 o.t]
def opv (o : Opn) : Value := .agg (opcs o).toArray
def rcs : List Value := [.int .i64 0, .int .i64 0]
/-- Memory of such a function: the heap's box, the operation's, the two results'. -/
structure FnMem (w : World) (hc oc : List Value) (W : World) : Prop where
  kh : Whole W w.heap.size 26 hc
  ko : Whole W (w.heap.size + 1) 29 oc
  kr : Whole W (w.heap.size + 1 + 1) 26 zcs
  kq : Whole W (w.heap.size + 1 + 1 + 1) 34 rcs
  bel : Below w.heap.size w W
theorem FnMem.start (w : World) (hc oc : List Value) : FnMem w hc oc ((((w.alloc (.cells hc.toArray 26)).alloc (.cells oc.toArray 29)).alloc (.cells zcs.toArray 26)).alloc (.cells rcs.toArray 34)) := by
  have z1 : (w.alloc (.cells hc.toArray 26)).heap.size = w.heap.size + 1 := by simp
  have z2 : ((w.alloc (.cells hc.toArray 26)).alloc (.cells oc.toArray 29)).heap.size = w.heap.size + 1 + 1 := by simp
  have z3 : (((w.alloc (.cells hc.toArray 26)).alloc (.cells oc.toArray 29)).alloc (.cells zcs.toArray 26)).heap.size = w.heap.size + 1 + 1 + 1 := by simp
  have k1 := Whole.new (w.alloc (.cells hc.toArray 26)) oc.toArray 29
  have k2 := Whole.new ((w.alloc (.cells hc.toArray 26)).alloc (.cells oc.toArray 29)) zcs.toArray 26
  have k3 := Whole.new (((w.alloc (.cells hc.toArray 26)).alloc (.cells oc.toArray 29)).alloc (.cells zcs.toArray 26)) rcs.toArray 34
  rw [z1] at k1
  rw [z2] at k2
  rw [z3] at k3
  exact ⟨(((Whole.new w hc.toArray 26).alloc _).alloc _).alloc _, (k1.alloc _).alloc _, k2.alloc _, k3, ((((Grew.refl w).alloc _).alloc _).alloc _).alloc _ |>.below⟩
theorem FnMem.below {w W W' : World} {hc oc : List Value} (h : FnMem w hc oc W) (b : Below W.heap.size W W') : FnMem w hc oc W' :=
  ⟨h.kh.below b, h.ko.below b, h.kr.below b, h.kq.below b, h.bel.trans (b.mono h.bel.size)⟩
theorem results_two {fn : Func} {p q : Tmp} (h : fn.results = #[.cell p 26, .cell q 34]) (tmps : Array Value) (w : World) (kp kq : Nat) (hp : tmps.getD p undef = .pointer (some ⟨kp, 0, none⟩)) (hq : tmps.getD q undef = .pointer (some ⟨kq, 0, none⟩))
    {a0 a1 a2 a3 a4 a5 a6 a7 b0 b1 : Value} (K : Whole w kp 26 [a0, a1, a2, a3, a4, a5, a6, a7]) (R : Whole w kq 34 [b0, b1]) : (results fn tmps).run Tryz.prog w = .ok (.tuple #[.agg #[a0, a1, a2, a3, a4, a5, a6, a7], .agg #[b0, b1]]) w := by
  have u1 := Tryz.underlying26
  have z1 := Tryz.sizeOf26
  have i1 := Tryz.isAgg26
  have u2 := Tryz.underlying34
  have z2 := Tryz.sizeOf34
  have i2 := Tryz.isAgg34
  have hp' : tmps[p]?.getD undef = .pointer (some ⟨kp, 0, none⟩) := by simpa using hp
  have hq' : tmps[q]?.getD undef = .pointer (some ⟨kq, 0, none⟩) := by simpa using hq
  have c0 := K.cell 0
  have c1 := K.cell 1
  have c2 := K.cell 2
  have c3 := K.cell 3
  have c4 := K.cell 4
  have c5 := K.cell 5
  have c6 := K.cell 6
  have c7 := K.cell 7
  have d0 := R.cell 0
  have d1 := R.cell 1
  simp only [List.getElem?_cons_succ, List.getElem?_cons_zero] at c0 c1 c2 c3 c4 c5 c6 c7 d0 d1
  simp only [results, h]
  simp [hp', hq', asAddr, loadVar]
  go_simp
/-- Behind the results are stored. -/
theorem FnMem.fin {w W : World} {hc oc : List Value} (h : FnMem w hc oc W) (a0 a1 a2 a3 a4 a5 a6 a7 b0 b1 : Value) :
    Whole ((((((((((W.setCell ⟨w.heap.size + 1 + 1, 0, none⟩ a0).setCell ⟨w.heap.size + 1 + 1, 1, none⟩ a1).setCell ⟨w.heap.size + 1 + 1, 2, none⟩ a2).setCell ⟨w.heap.size + 1 + 1, 3, none⟩ a3).setCell ⟨w.heap.size + 1 + 1, 4, none⟩ a4).setCell ⟨w.heap.size + 1 + 1, 5, none⟩ a5).setCell ⟨w.heap.size + 1 + 1, 6, none⟩ a6).setCell ⟨w.heap.size + 1 + 1, 7, none⟩ a7).setCell ⟨w.heap.size + 1 + 1 + 1, 0, none⟩ b0).setCell ⟨w.heap.size + 1 + 1 + 1, 1, none⟩ b1) (w.heap.size + 1 + 1) 26 [a0, a1, a2, a3, a4, a5, a6, a7] ∧ Whole ((((((((((W.setCell ⟨w.heap.size + 1 + 1, 0, none⟩ a0).setCell ⟨w.heap.size + 1 + 1, 1, none⟩ a1).setCell ⟨w.heap.size + 1 + 1, 2, none⟩ a2).setCell ⟨w.heap.size + 1 + 1, 3, none⟩ a3).setCell ⟨w.heap.size + 1 + 1, 4, none⟩ a4).setCell ⟨w.heap.size + 1 + 1, 5, none⟩ a5).setCell ⟨w.heap.size + 1 + 1, 6, none⟩ a6).setCell ⟨w.heap.size + 1 + 1, 7, none⟩ a7).setCell ⟨w.heap.size + 1 + 1 + 1, 0, none⟩ b0).setCell ⟨w.heap.size + 1 + 1 + 1, 1, none⟩ b1) (w.heap.size + 1 + 1 + 1) 34 [b0, b1] ∧ Below w.heap.size w ((((((((((W.setCell ⟨w.heap.size + 1 + 1, 0, none⟩ a0).setCell ⟨w.heap.size + 1 + 1, 1, none⟩ a1).setCell ⟨w.heap.size + 1 + 1, 2, none⟩ a2).setCell ⟨w.heap.size + 1 + 1, 3, none⟩ a3).setCell ⟨w.heap.size + 1 + 1, 4, none⟩ a4).setCell ⟨w.heap.size + 1 + 1, 5, none⟩ a5).setCell ⟨w.heap.size + 1 + 1, 6, none⟩ a6).setCell ⟨w.heap.size + 1 + 1, 7, none⟩ a7).setCell ⟨w.heap.size + 1 + 1 + 1, 0, none⟩ b0).setCell ⟨w.heap.size + 1 + 1 + 1, 1, none⟩ b1) := by
  have g1 := grown_set8 W (w.heap.size + 1 + 1) a0 a1 a2 a3 a4 a5 a6 a7
  have k1 := (((((((h.kr.set 0 a0).set 1 a1).set 2 a2).set 3 a3).set 4 a4).set 5 a5).set 6 a6).set 7 a7
  have q1 := h.kq.grown g1 (by omega)
  have b1' := below_grown h.bel g1 h.bel.size (by omega)
  generalize ((((((((W.setCell ⟨w.heap.size + 1 + 1, 0, none⟩ a0).setCell ⟨w.heap.size + 1 + 1, 1, none⟩ a1).setCell ⟨w.heap.size + 1 + 1, 2, none⟩ a2).setCell ⟨w.heap.size + 1 + 1, 3, none⟩ a3).setCell ⟨w.heap.size + 1 + 1, 4, none⟩ a4).setCell ⟨w.heap.size + 1 + 1, 5, none⟩ a5).setCell ⟨w.heap.size + 1 + 1, 6, none⟩ a6).setCell ⟨w.heap.size + 1 + 1, 7, none⟩ a7) = W1 at g1 k1 q1 b1' ⊢
  have g2 := grown_trans (grown_set W1 (w.heap.size + 1 + 1 + 1) 0 b0) (grown_set _ (w.heap.size + 1 + 1 + 1) 1 b1)
  exact ⟨k1.grown g2 (by omega), (q1.set 0 b0).set 1 b1, below_grown b1' g2 b1'.size (by omega)⟩
theorem FnMem.heap {w W : World} {hc oc : List Value} (h : FnMem w hc oc W) (j : Nat) (u : Value) : FnMem w (hc.set j u) oc (W.setCell ⟨w.heap.size, j, none⟩ u) := by
  have g := grown_set W w.heap.size j u
  exact ⟨h.kh.set j u, h.ko.grown g (by omega), h.kr.grown g (by omega), h.kq.grown g (by omega), below_grown h.bel g h.bel.size (Nat.le_refl _)⟩
def InPost (w : World) (base : Nat) (r : Hp × Int × Int) (e : Ending) (w' : World) : Prop :=
  ∃ s os, e = .returned (.tuple #[hval r.1 s, .agg #[.int .i64 r.2.1, .int .i64 r.2.2]]) ∧ OwnHp w' base s os r.1 ∧ Below base w w'
theorem tget_set {H : Hp} {i j : Nat} {t : Int} (hi : i < H.tp.length) : tget { H with tp := H.tp.set i t } j = if i = j then t else tget H j := by
  unfold tget
  simp only
  by_cases e : i = j
  · subst e; rw [if_pos rfl, getD_set_self hi]
  · rw [if_neg e, getD_set_ne e]

set_option maxRecDepth 100000 in
set_option maxHeartbeats 4000000 in
theorem refTop_in (s : HSl) (os : List (Ob × OSl)) (H : Hp) (o : Opn) (w : World) (base : Nat) (h : OwnHp w base s os H) (hb : base ≤ w.heap.size) (hn : s.n ≤ 1000) :
    Calls Tryz.prog 74 #[hval H s, opv o] w (InPost w base (topH H o)) := by
  have M := Lib.hid (FnMem.start w (hcs H s) (opcs o))
  have SL := fun W (b : Below w.heap.size w W) => refLeads_any s H o.t W (h.rd.below b) hn
  have HH := Lib.hid h
  have H4 := Lib.hid h.tp
  obtain ⟨A, n, c, F, m, d⟩ := s
  obtain ⟨ok, oh, oi, on, okk, ov, ot⟩ := o
  clear h
  simp only [hval, hcs, opv, opcs, zcs, rcs] at *
  go_enter Tryz.func74, Tryz.ntmps74
  go_upto_region 1 with (fail)
  generalize (((w.alloc (.cells _ 26)).alloc (.cells _ 29)).alloc (.cells _ 26)).alloc (.cells _ 34) = W at M ⊢
  have k0 := M.out.kh.cell 0
  have k1 := M.out.kh.cell 1
  have k2 := M.out.kh.cell 2
  have k3 := M.out.kh.cell 3
  have k4 := M.out.kh.cell 4
  have k5 := M.out.kh.cell 5
  have k6 := M.out.kh.cell 6
  have k7 := M.out.kh.cell 7
  have p0 := M.out.ko.cell 0
  have p2 := M.out.ko.cell 2
  have p6 := M.out.ko.cell 6
  have r0 := M.out.kr.cell 0
  have r1 := M.out.kr.cell 1
  have r2 := M.out.kr.cell 2
  have r3 := M.out.kr.cell 3
  have r4 := M.out.kr.cell 4
  have r5 := M.out.kr.cell 5
  have r6 := M.out.kr.cell 6
  have r7 := M.out.kr.cell 7
  have q0 := M.out.kq.cell 0
  have q1 := M.out.kq.cell 1
  simp only [zcs, rcs, List.getElem?_cons_succ, List.getElem?_cons_zero] at k0 k1 k2 k3 k4 k5 k6 k7 p0 p2 p6 r0 r1 r2 r3 r4 r5 r6 r7 q0 q1
  have fr := M.out.kr.free
  have fq := M.out.kq.free
  by_cases a1 : oi < 0
  case pos =>
    have d1 : decide (oi < 0) = true := decide_eq_true a1
    have Hr := Lib.hid (show topH H ⟨ok, oh, oi, on, okk, ov, ot⟩ = (H, 52, 0) from if_pos (by simp only; omega))
    have Hf := Lib.hid (M.out.fin (.int .i64 H.od) (.slice A n c) (.int .i64 H.nx) (.int .i64 (tget H 0)) (.int .i64 (tget H 1)) (.int .i64 (tget H 2)) (.int .i64 (tget H 3)) (.slice F m d) (.int .i64 52) (.int .i64 0))
    go_wp2
    refine bodyPost_ret (results_two rfl _ _ (w.heap.size + 1 + 1) (w.heap.size + 1 + 1 + 1) rfl rfl Hf.out.1 Hf.out.2.1) rfl ?_
    rw [Hr.out]
    exact ⟨⟨A, n, c, F, m, d⟩, os, rfl, HH.out.below Hf.out.2.2, Hf.out.2.2.mono hb⟩
  have d1 : decide (oi < 0) = false := decide_eq_false a1
  by_cases a2 : 4 ≤ oi
  case pos =>
    have d2 : decide (4 ≤ oi) = true := decide_eq_true a2
    have Hr := Lib.hid (show topH H ⟨ok, oh, oi, on, okk, ov, ot⟩ = (H, 52, 0) from if_pos (by simp only; omega))
    have Hf := Lib.hid (M.out.fin (.int .i64 H.od) (.slice A n c) (.int .i64 H.nx) (.int .i64 (tget H 0)) (.int .i64 (tget H 1)) (.int .i64 (tget H 2)) (.int .i64 (tget H 3)) (.slice F m d) (.int .i64 52) (.int .i64 0))
    go_wp2
    refine bodyPost_ret (results_two rfl _ _ (w.heap.size + 1 + 1) (w.heap.size + 1 + 1 + 1) rfl rfl Hf.out.1 Hf.out.2.1) rfl ?_
    rw [Hr.out]
    exact ⟨⟨A, n, c, F, m, d⟩, os, rfl, HH.out.below Hf.out.2.2, Hf.out.2.2.mono hb⟩
  have d2 : decide (4 ≤ oi) = false := decide_eq_false a2
  by_cases a3 : ok = 8
  case pos =>
    subst a3
    have Hr := Lib.hid (show topH H ⟨8, oh, oi, on, okk, ov, ot⟩ = (H, 0, tget H oi.toNat) from by unfold topH; rw [if_neg (by simp only; omega), if_pos rfl]; rfl)
    rcases (by omega : oi = 0 ∨ oi = 1 ∨ oi = 2 ∨ oi = 3) with e | e | e | e
    · subst e
      have Hf := Lib.hid (M.out.fin (.int .i64 H.od) (.slice A n c) (.int .i64 H.nx) (.int .i64 (tget H 0)) (.int .i64 (tget H 1)) (.int .i64 (tget H 2)) (.int .i64 (tget H 3)) (.slice F m d) (.int .i64 0) (.int .i64 (tget H 0)))
      go_upto_region 4 with (fail)
      go_region_with (fail)
      all_goals
        go_wp2
        refine bodyPost_ret (results_two rfl _ _ (w.heap.size + 1 + 1) (w.heap.size + 1 + 1 + 1) rfl rfl Hf.out.1.drew Hf.out.2.1.drew) rfl ?_
        rw [Hr.out]
        exact ⟨⟨A, n, c, F, m, d⟩, os, rfl, HH.out.below Hf.out.2.2.drew, Hf.out.2.2.drew.mono hb⟩
    · subst e
      have Hf := Lib.hid (M.out.fin (.int .i64 H.od) (.slice A n c) (.int .i64 H.nx) (.int .i64 (tget H 0)) (.int .i64 (tget H 1)) (.int .i64 (tget H 2)) (.int .i64 (tget H 3)) (.slice F m d) (.int .i64 0) (.int .i64 (tget H 1)))
      go_upto_region 4 with (fail)
      go_region_with (fail)
      all_goals
        go_wp2
        refine bodyPost_ret (results_two rfl _ _ (w.heap.size + 1 + 1) (w.heap.size + 1 + 1 + 1) rfl rfl Hf.out.1.drew Hf.out.2.1.drew) rfl ?_
        rw [Hr.out]
        exact ⟨⟨A, n, c, F, m, d⟩, os, rfl, HH.out.below Hf.out.2.2.drew, Hf.out.2.2.drew.mono hb⟩
    · subst e
      have Hf := Lib.hid (M.out.fin (.int .i64 H.od) (.slice A n c) (.int .i64 H.nx) (.int .i64 (tget H 0)) (.int .i64 (tget H 1)) (.int .i64 (tget H 2)) (.int .i64 (tget H 3)) (.slice F m d) (.int .i64 0) (.int .i64 (tget H 2)))
      go_upto_region 4 with (fail)
      go_region_with (fail)
      all_goals
        go_wp2
        refine bodyPost_ret (results_two rfl _ _ (w.heap.size + 1 + 1) (w.heap.size + 1 + 1 + 1) rfl rfl Hf.out.1.drew Hf.out.2.1.drew) rfl ?_
        rw [Hr.out]
        exact ⟨⟨A, n, c, F, m, d⟩, os, rfl, HH.out.below Hf.out.2.2.drew, Hf.out.2.2.drew.mono hb⟩
    · subst e
      have Hf := Lib.hid (M.out.fin (.int .i64 H.od) (.slice A n c) (.int .i64 H.nx) (.int .i64 (tget H 0)) (.int .i64 (tget H 1)) (.int .i64 (tget H 2)) (.int .i64 (tget H 3)) (.slice F m d) (.int .i64 0) (.int .i64 (tget H 3)))
      go_upto_region 4 with (fail)
      go_region_with (fail)
      all_goals
        go_wp2
        refine bodyPost_ret (results_two rfl _ _ (w.heap.size + 1 + 1) (w.heap.size + 1 + 1 + 1) rfl rfl Hf.out.1.drew Hf.out.2.1.drew) rfl ?_
        rw [Hr.out]
        exact ⟨⟨A, n, c, F, m, d⟩, os, rfl, HH.out.below Hf.out.2.2.drew, Hf.out.2.2.drew.mono hb⟩
  have d3 : (ok == 8) = false := by simp [a3]
  have e3 : decide (ok = 8) = false := decide_eq_false a3
  by_cases hl : Leads H ot
  case neg =>
    rw [decide_eq_false hl] at SL
    have Hr := Lib.hid (show topH H ⟨ok, oh, oi, on, okk, ov, ot⟩ = (H, 51, 0) from by unfold topH; rw [if_neg (by simp only; omega), if_neg a3, if_neg hl])
    clear hl
    go_upto_region 6 with (go_at_call 67; refine (SL _ M.out.bel).mono ?_; rintro e w2 ⟨rfl, g2⟩)
    have M2 := Lib.hid (M.out.below g2.below)
    clear k0 k1 k2 k3 k4 k5 k6 k7 p0 p2 p6 r0 r1 r2 r3 r4 r5 r6 r7 q0 q1 fr fq SL M g2
    have k0 := M2.out.kh.cell 0
    have k1 := M2.out.kh.cell 1
    have k2 := M2.out.kh.cell 2
    have k3 := M2.out.kh.cell 3
    have k4 := M2.out.kh.cell 4
    have k5 := M2.out.kh.cell 5
    have k6 := M2.out.kh.cell 6
    have k7 := M2.out.kh.cell 7
    have r0 := M2.out.kr.cell 0
    have r1 := M2.out.kr.cell 1
    have r2 := M2.out.kr.cell 2
    have r3 := M2.out.kr.cell 3
    have r4 := M2.out.kr.cell 4
    have r5 := M2.out.kr.cell 5
    have r6 := M2.out.kr.cell 6
    have r7 := M2.out.kr.cell 7
    have q0 := M2.out.kq.cell 0
    have q1 := M2.out.kq.cell 1
    simp only [zcs, rcs, List.getElem?_cons_succ, List.getElem?_cons_zero] at k0 k1 k2 k3 k4 k5 k6 k7 r0 r1 r2 r3 r4 r5 r6 r7 q0 q1
    have fr := M2.out.kr.free
    have fq := M2.out.kq.free
    have Hf := Lib.hid (M2.out.fin (.int .i64 H.od) (.slice A n c) (.int .i64 H.nx) (.int .i64 (tget H 0)) (.int .i64 (tget H 1)) (.int .i64 (tget H 2)) (.int .i64 (tget H 3)) (.slice F m d) (.int .i64 51) (.int .i64 0))
    go_wp2
    refine bodyPost_ret (results_two rfl _ _ (w.heap.size + 1 + 1) (w.heap.size + 1 + 1 + 1) rfl rfl Hf.out.1 Hf.out.2.1) rfl ?_
    rw [Hr.out]
    exact ⟨⟨A, n, c, F, m, d⟩, os, rfl, HH.out.below Hf.out.2.2, Hf.out.2.2.mono hb⟩
  rw [decide_eq_true hl] at SL
  have Hr := Lib.hid (show topH H ⟨ok, oh, oi, on, okk, ov, ot⟩ = ({ H with tp := H.tp.set oi.toNat ot }, 0, 0) from by unfold topH; rw [if_neg (by simp only; omega), if_neg a3, if_pos hl])
  clear hl
  go_upto_region 7 with (go_at_call 67; refine (SL _ M.out.bel).mono ?_; rintro e w2 ⟨rfl, g2⟩)
  have M2 := Lib.hid (M.out.below g2.below)
  clear k0 k1 k2 k3 k4 k5 k6 k7 p0 p2 p6 r0 r1 r2 r3 r4 r5 r6 r7 q0 q1 fr fq SL M g2
  have p2 := M2.out.ko.cell 2
  have p6 := M2.out.ko.cell 6
  have fh := M2.out.kh.free
  simp only [List.getElem?_cons_succ, List.getElem?_cons_zero] at p2 p6
  rcases (by omega : oi = 0 ∨ oi = 1 ∨ oi = 2 ∨ oi = 3) with e | e | e | e
  · subst e
    have kc := M2.out.kh.cell 3
    simp only [List.getElem?_cons_succ, List.getElem?_cons_zero] at kc
    have hv := Lib.hid (show hval { H with tp := H.tp.set 0 ot } ⟨A, n, c, F, m, d⟩ = .agg #[.int .i64 H.od, .slice A n c, .int .i64 H.nx, .int .i64 ot, .int .i64 (tget H 1), .int .i64 (tget H 2), .int .i64 (tget H 3), .slice F m d] from by
      unfold hval hcs
      rw [tget_set (by rw [H4.out]; omega), tget_set (by rw [H4.out]; omega), tget_set (by rw [H4.out]; omega), tget_set (by rw [H4.out]; omega)]
      rfl)
    go_upto_region 8 with (fail)
    have M3 := Lib.hid (M2.out.heap 3 (.int .i64 ot))
    clear kc p2 p6 fh M2
    generalize World.setCell _ ⟨w.heap.size, 3, none⟩ (.int .i64 ot) = W3 at M3 ⊢
    simp only [List.set_cons_succ, List.set_cons_zero] at M3
    have k0 := M3.out.kh.cell 0
    have k1 := M3.out.kh.cell 1
    have k2 := M3.out.kh.cell 2
    have k3 := M3.out.kh.cell 3
    have k4 := M3.out.kh.cell 4
    have k5 := M3.out.kh.cell 5
    have k6 := M3.out.kh.cell 6
    have k7 := M3.out.kh.cell 7
    have r0 := M3.out.kr.cell 0
    have r1 := M3.out.kr.cell 1
    have r2 := M3.out.kr.cell 2
    have r3 := M3.out.kr.cell 3
    have r4 := M3.out.kr.cell 4
    have r5 := M3.out.kr.cell 5
    have r6 := M3.out.kr.cell 6
    have r7 := M3.out.kr.cell 7
    have q0 := M3.out.kq.cell 0
    have q1 := M3.out.kq.cell 1
    simp only [zcs, rcs, List.getElem?_cons_succ, List.getElem?_cons_zero] at k0 k1 k2 k3 k4 k5 k6 k7 r0 r1 r2 r3 r4 r5 r6 r7 q0 q1
    have fr := M3.out.kr.free
    have fq := M3.out.kq.free
    have Hf := Lib.hid (M3.out.fin (.int .i64 H.od) (.slice A n c) (.int .i64 H.nx) (.int .i64 ot) (.int .i64 (tget H 1)) (.int .i64 (tget H 2)) (.int .i64 (tget H 3)) (.slice F m d) (.int .i64 0) (.int .i64 0))
    go_wp2
    refine bodyPost_ret (results_two rfl _ _ (w.heap.size + 1 + 1) (w.heap.size + 1 + 1 + 1) rfl rfl Hf.out.1 Hf.out.2.1) rfl ?_
    rw [Hr.out]
    refine ⟨⟨A, n, c, F, m, d⟩, os, ?_, ?_, Hf.out.2.2.mono hb⟩
    · show Ending.returned (.tuple #[_, _]) = _
      rw [show (0 : Int).toNat = 0 from rfl, hv.out]
    · have hq := HH.out.below Hf.out.2.2
      exact ⟨hq.objs, hq.obs, hq.free, by simp only [List.length_set]; exact H4.out, hq.nx⟩
  · subst e
    have kc := M2.out.kh.cell 4
    simp only [List.getElem?_cons_succ, List.getElem?_cons_zero] at kc
    have hv := Lib.hid (show hval { H with tp := H.tp.set 1 ot } ⟨A, n, c, F, m, d⟩ = .agg #[.int .i64 H.od, .slice A n c, .int .i64 H.nx, .int .i64 (tget H 0), .int .i64 ot, .int .i64 (tget H 2), .int .i64 (tget H 3), .slice F m d] from by
      unfold hval hcs
      rw [tget_set (by rw [H4.out]; omega), tget_set (by rw [H4.out]; omega), tget_set (by rw [H4.out]; omega), tget_set (by rw [H4.out]; omega)]
      rfl)
    go_upto_region 8 with (fail)
    have M3 := Lib.hid (M2.out.heap 4 (.int .i64 ot))
    clear kc p2 p6 fh M2
    generalize World.setCell _ ⟨w.heap.size, 4, none⟩ (.int .i64 ot) = W3 at M3 ⊢
    simp only [List.set_cons_succ, List.set_cons_zero] at M3
    have k0 := M3.out.kh.cell 0
    have k1 := M3.out.kh.cell 1
    have k2 := M3.out.kh.cell 2
    have k3 := M3.out.kh.cell 3
    have k4 := M3.out.kh.cell 4
    have k5 := M3.out.kh.cell 5
    have k6 := M3.out.kh.cell 6
    have k7 := M3.out.kh.cell 7
    have r0 := M3.out.kr.cell 0
    have r1 := M3.out.kr.cell 1
    have r2 := M3.out.kr.cell 2
    have r3 := M3.out.kr.cell 3
    have r4 := M3.out.kr.cell 4
    have r5 := M3.out.kr.cell 5
    have r6 := M3.out.kr.cell 6
    have r7 := M3.out.kr.cell 7
    have q0 := M3.out.kq.cell 0
    have q1 := M3.out.kq.cell 1
    simp only [zcs, rcs, List.getElem?_cons_succ, List.getElem?_cons_zero] at k0 k1 k2 k3 k4 k5 k6 k7 r0 r1 r2 r3 r4 r5 r6 r7 q0 q1
    have fr := M3.out.kr.free
    have fq := M3.out.kq.free
    have Hf := Lib.hid (M3.out.fin (.int .i64 H.od) (.slice A n c) (.int .i64 H.nx) (.int .i64 (tget H 0)) (.int .i64 ot) (.int .i64 (tget H 2)) (.int .i64 (tget H 3)) (.slice F m d) (.int .i64 0) (.int .i64 0))
    go_wp2
    refine bodyPost_ret (results_two rfl _ _ (w.heap.size + 1 + 1) (w.heap.size + 1 + 1 + 1) rfl rfl Hf.out.1 Hf.out.2.1) rfl ?_
    rw [Hr.out]
    refine ⟨⟨A, n, c, F, m, d⟩, os, ?_, ?_, Hf.out.2.2.mono hb⟩
    · show Ending.returned (.tuple #[_, _]) = _
      rw [show (1 : Int).toNat = 1 from rfl, hv.out]
    · have hq := HH.out.below Hf.out.2.2
      exact ⟨hq.objs, hq.obs, hq.free, by simp only [List.length_set]; exact H4.out, hq.nx⟩
  · subst e
    have kc := M2.out.kh.cell 5
    simp only [List.getElem?_cons_succ, List.getElem?_cons_zero] at kc
    have hv := Lib.hid (show hval { H with tp := H.tp.set 2 ot } ⟨A, n, c, F, m, d⟩ = .agg #[.int .i64 H.od, .slice A n c, .int .i64 H.nx, .int .i64 (tget H 0), .int .i64 (tget H 1), .int .i64 ot, .int .i64 (tget H 3), .slice F m d] from by
      unfold hval hcs
      rw [tget_set (by rw [H4.out]; omega), tget_set (by rw [H4.out]; omega), tget_set (by rw [H4.out]; omega), tget_set (by rw [H4.out]; omega)]
      rfl)
    go_upto_region 8 with (fail)
    have M3 := Lib.hid (M2.out.heap 5 (.int .i64 ot))
    clear kc p2 p6 fh M2
    generalize World.setCell _ ⟨w.heap.size, 5, none⟩ (.int .i64 ot) = W3 at M3 ⊢
    simp only [List.set_cons_succ, List.set_cons_zero] at M3
    have k0 := M3.out.kh.cell 0
    have k1 := M3.out.kh.cell 1
    have k2 := M3.out.kh.cell 2
    have k3 := M3.out.kh.cell 3
    have k4 := M3.out.kh.cell 4
    have k5 := M3.out.kh.cell 5
    have k6 := M3.out.kh.cell 6
    have k7 := M3.out.kh.cell 7
    have r0 := M3.out.kr.cell 0
    have r1 := M3.out.kr.cell 1
    have r2 := M3.out.kr.cell 2
    have r3 := M3.out.kr.cell 3
    have r4 := M3.out.kr.cell 4
    have r5 := M3.out.kr.cell 5
    have r6 := M3.out.kr.cell 6
    have r7 := M3.out.kr.cell 7
    have q0 := M3.out.kq.cell 0
    have q1 := M3.out.kq.cell 1
    simp only [zcs, rcs, List.getElem?_cons_succ, List.getElem?_cons_zero] at k0 k1 k2 k3 k4 k5 k6 k7 r0 r1 r2 r3 r4 r5 r6 r7 q0 q1
    have fr := M3.out.kr.free
    have fq := M3.out.kq.free
    have Hf := Lib.hid (M3.out.fin (.int .i64 H.od) (.slice A n c) (.int .i64 H.nx) (.int .i64 (tget H 0)) (.int .i64 (tget H 1)) (.int .i64 ot) (.int .i64 (tget H 3)) (.slice F m d) (.int .i64 0) (.int .i64 0))
    go_wp2
    refine bodyPost_ret (results_two rfl _ _ (w.heap.size + 1 + 1) (w.heap.size + 1 + 1 + 1) rfl rfl Hf.out.1 Hf.out.2.1) rfl ?_
    rw [Hr.out]
    refine ⟨⟨A, n, c, F, m, d⟩, os, ?_, ?_, Hf.out.2.2.mono hb⟩
    · show Ending.returned (.tuple #[_, _]) = _
      rw [show (2 : Int).toNat = 2 from rfl, hv.out]
    · have hq := HH.out.below Hf.out.2.2
      exact ⟨hq.objs, hq.obs, hq.free, by simp only [List.length_set]; exact H4.out, hq.nx⟩
  · subst e
    have kc := M2.out.kh.cell 6
    simp only [List.getElem?_cons_succ, List.getElem?_cons_zero] at kc
    have hv := Lib.hid (show hval { H with tp := H.tp.set 3 ot } ⟨A, n, c, F, m, d⟩ = .agg #[.int .i64 H.od, .slice A n c, .int .i64 H.nx, .int .i64 (tget H 0), .int .i64 (tget H 1), .int .i64 (tget H 2), .int .i64 ot, .slice F m d] from by
      unfold hval hcs
      rw [tget_set (by rw [H4.out]; omega), tget_set (by rw [H4.out]; omega), tget_set (by rw [H4.out]; omega), tget_set (by rw [H4.out]; omega)]
      rfl)
    go_upto_region 8 with (fail)
    have M3 := Lib.hid (M2.out.heap 6 (.int .i64 ot))
    clear kc p2 p6 fh M2
    generalize World.setCell _ ⟨w.heap.size, 6, none⟩ (.int .i64 ot) = W3 at M3 ⊢
    simp only [List.set_cons_succ, List.set_cons_zero] at M3
    have k0 := M3.out.kh.cell 0
    have k1 := M3.out.kh.cell 1
    have k2 := M3.out.kh.cell 2
    have k3 := M3.out.kh.cell 3
    have k4 := M3.out.kh.cell 4
    have k5 := M3.out.kh.cell 5
    have k6 := M3.out.kh.cell 6
    have k7 := M3.out.kh.cell 7
    have r0 := M3.out.kr.cell 0
    have r1 := M3.out.kr.cell 1
    have r2 := M3.out.kr.cell 2
    have r3 := M3.out.kr.cell 3
    have r4 := M3.out.kr.cell 4
    have r5 := M3.out.kr.cell 5
    have r6 := M3.out.kr.cell 6
    have r7 := M3.out.kr.cell 7
    have q0 := M3.out.kq.cell 0
    have q1 := M3.out.kq.cell 1
    simp only [zcs, rcs, List.getElem?_cons_succ, List.getElem?_cons_zero] at k0 k1 k2 k3 k4 k5 k6 k7 r0 r1 r2 r3 r4 r5 r6 r7 q0 q1
    have fr := M3.out.kr.free
    have fq := M3.out.kq.free
    have Hf := Lib.hid (M3.out.fin (.int .i64 H.od) (.slice A n c) (.int .i64 H.nx) (.int .i64 (tget H 0)) (.int .i64 (tget H 1)) (.int .i64 (tget H 2)) (.int .i64 ot) (.slice F m d) (.int .i64 0) (.int .i64 0))
    go_wp2
    refine bodyPost_ret (results_two rfl _ _ (w.heap.size + 1 + 1) (w.heap.size + 1 + 1 + 1) rfl rfl Hf.out.1 Hf.out.2.1) rfl ?_
    rw [Hr.out]
    refine ⟨⟨A, n, c, F, m, d⟩, os, ?_, ?_, Hf.out.2.2.mono hb⟩
    · show Ending.returned (.tuple #[_, _]) = _
      rw [show (3 : Int).toNat = 3 from rfl, hv.out]
    · have hq := HH.out.below Hf.out.2.2
      exact ⟨hq.objs, hq.obs, hq.free, by simp only [List.length_set]; exact H4.out, hq.nx⟩
end Go.Proofs.YtkbggbgnnllmjaaGreatDoor
namespace Go.Proofs.YtkbggbgnnllmjaaGreatDoor
open Go.RowKit

theorem ivs_set (l : List Int) (j : Nat) (t : Int) : (ivs l).set j (.int .i64 t) = ivs (l.set j t) := by
  unfold ivs
  rw [List.map_set]
/-- An integer of a row of the call's own is stored. -/
theorem OwnV.setI {I : TypeId} {w : World} {base g n c : Nat} {l : List Int} (hn : l.length = n) (h : OwnV I w base (.slice (some ⟨g, 0, none⟩) n c) (ivs l)) (j : Nat) (t : Int) :
    OwnV I (w.setCell ⟨g, j, none⟩ (.int .i64 t)) base (.slice (some ⟨g, 0, none⟩) n c) (ivs (l.set j t)) := by
  unfold OwnV at h ⊢
  rw [ivs_length, hn] at h
  rw [ivs_length, List.length_set, hn, ← ivs_set]
  exact (World.ownsRow.stored h j _).1
section
variable {U I : TypeId} {w : World} {base : Nat} {v : Value} {os : List (Ob × OSl)}
theorem OwnOs.other (h : OwnOs U I w base v os) {i i' : Nat} {p q : Ob × OSl} (hp : os[i]? = some p) (hq : os[i']? = some q) (hne : i ≠ i') : ∀ k ∈ twoB p.2, k ∉ twoB q.2 := by
  have hap := h.apart
  unfold blocksOf List.Nodup at hap
  rw [List.pairwise_flatMap] at hap
  obtain ⟨h1, h2⟩ := List.getElem?_eq_some_iff.1 hp
  obtain ⟨h3, h4⟩ := List.getElem?_eq_some_iff.1 hq
  intro k hk hk'
  rcases Nat.lt_or_gt_of_ne hne with e | e
  · have := List.pairwise_iff_getElem.1 hap.2 i i' h1 h3 e
    rw [h2, h4] at this
    exact this k hk k hk' rfl
  · have := List.pairwise_iff_getElem.1 hap.2 i' i h3 h1 e
    rw [h2, h4] at this
    exact this k hk' k hk rfl
theorem OwnOs.same (h : OwnOs U I w base v os) {p : Ob × OSl} (hp : p ∈ os) {k : Nat} (h1 : p.2.wv.ownBlock = some k) : p.2.lv.ownBlock ≠ some k := by
  have hap := h.apart
  unfold blocksOf List.Nodup at hap
  rw [List.pairwise_flatMap] at hap
  have := hap.1 p hp
  unfold twoB at this
  rw [h1] at this
  intro e
  rw [e] at this
  simp at this
theorem set_mem {i : Nat} {p q : Ob × OSl} (hq : q ∈ os.set i p) (hi : i < os.length) : q = p ∨ ∃ i', i' ≠ i ∧ os[i']? = some q := by
  obtain ⟨j, hj, e⟩ := List.getElem_of_mem hq
  by_cases hji : j = i
  · subst hji
    rw [List.getElem_set_self] at e
    exact .inl e.symm
  · rw [List.getElem_set_ne (by omega)] at e
    exact .inr ⟨j, hji, by rw [List.length_set] at hj; rw [List.getElem?_eq_getElem hj, e]⟩
theorem blocksOf_set {i : Nat} {p : Ob × OSl} {x : Ob} (hp : os[i]? = some p) : blocksOf (os.set i (x, p.2)) = blocksOf os := by
  unfold blocksOf
  rw [List.flatMap_def, List.flatMap_def]
  congr 1
  rw [List.map_set]
  obtain ⟨h1, h2⟩ := List.getElem?_eq_some_iff.1 hp
  simp only
  rw [← h2, ← List.getElem_map (fun p : Ob × OSl => twoB p.2) (h := by simpa using h1), List.set_getElem_self]
theorem ocs_set {i : Nat} {p : Ob × OSl} {x : Ob} (hp : os[i]? = some p) (h1 : x.hd = p.1.hd) (h2 : x.bl = p.1.bl) : ocs (os.set i (x, p.2)) = ocs os := by
  unfold ocs
  rw [List.flatMap_def, List.flatMap_def]
  congr 1
  rw [List.map_set]
  obtain ⟨k1, k2⟩ := List.getElem?_eq_some_iff.1 hp
  have : oc (x, p.2) = oc p := by unfold oc; simp only [h1, h2]
  rw [this, ← k2, ← List.getElem_map oc (h := by simpa using k1), List.set_getElem_self]
/-- A word is stored. -/
theorem OwnOs.setW (h : OwnOs U I w base v os) (hUI : U ≠ I) {i j g n c : Nat} {p : Ob × OSl} (hp : os[i]? = some p) (hw : p.2.wv = .slice (some ⟨g, 0, none⟩) n c) (hn : p.1.ws.length = n) (t : Int) :
    OwnOs U I (w.setCell ⟨g, j, none⟩ (.int .i64 t)) base v (os.set i ({ p.1 with ws := p.1.ws.set j t }, p.2)) := by
  have hpm := List.mem_of_getElem? hp
  have hi := (List.getElem?_eq_some_iff.1 hp).1
  have hg := grown_set w g j (.int .i64 t)
  have hwb : p.2.wv.ownBlock = some g := by rw [hw]; rfl
  have hgb : g ∈ twoB p.2 := mem_two.2 (.inl hwb)
  have hgm : g ∈ blocksOf os := mem_blocks.2 ⟨p, hpm, .inl hwb⟩
  refine ⟨?_, fun q hq => ?_, by rw [blocksOf_set hp]; exact h.apart⟩
  · rw [List.length_set, ocs_set (x := { p.1 with ws := p.1.ws.set j t }) hp rfl rfl]
    exact row_keep h.row fun k hk => hg.block k (h.row_lt k hk).2 fun e => by injection e with e; subst e; exact h.row_ne hUI _ hgm hk
  · rcases set_mem hq hi with e | ⟨i', hne, hq'⟩
    · subst e
      have h1 := h.ints p hpm
      refine ⟨?_, h1.2.keep fun k hk => hg.block k (h1.2.lt k hk).2 fun e => by injection e with e; subst e; exact h.same hpm hwb hk⟩
      simp only
      have h2 := h1.1
      rw [hw] at h2 ⊢
      exact h2.setI hn j t
    · have h1 := h.ints q (List.mem_of_getElem? hq')
      have hno := h.other hp hq' (fun e => hne e.symm) g hgb
      exact ⟨h1.1.keep fun k hk => hg.block k (h1.1.lt k hk).2 fun e => by injection e with e; subst e; exact hno (mem_two.2 (.inl hk)),
        h1.2.keep fun k hk => hg.block k (h1.2.lt k hk).2 fun e => by injection e with e; subst e; exact hno (mem_two.2 (.inr hk))⟩
/-- A link is stored. -/
theorem OwnOs.setL (h : OwnOs U I w base v os) (hUI : U ≠ I) {i j g n c : Nat} {p : Ob × OSl} (hp : os[i]? = some p) (hw : p.2.lv = .slice (some ⟨g, 0, none⟩) n c) (hn : p.1.ls.length = n) (t : Int) :
    OwnOs U I (w.setCell ⟨g, j, none⟩ (.int .i64 t)) base v (os.set i ({ p.1 with ls := p.1.ls.set j t }, p.2)) := by
  have hpm := List.mem_of_getElem? hp
  have hi := (List.getElem?_eq_some_iff.1 hp).1
  have hg := grown_set w g j (.int .i64 t)
  have hwb : p.2.lv.ownBlock = some g := by rw [hw]; rfl
  have hgb : g ∈ twoB p.2 := mem_two.2 (.inr hwb)
  have hgm : g ∈ blocksOf os := mem_blocks.2 ⟨p, hpm, .inr hwb⟩
  refine ⟨?_, fun q hq => ?_, by rw [blocksOf_set hp]; exact h.apart⟩
  · rw [List.length_set, ocs_set (x := { p.1 with ls := p.1.ls.set j t }) hp rfl rfl]
    exact row_keep h.row fun k hk => hg.block k (h.row_lt k hk).2 fun e => by injection e with e; subst e; exact h.row_ne hUI _ hgm hk
  · rcases set_mem hq hi with e | ⟨i', hne, hq'⟩
    · subst e
      have h1 := h.ints p hpm
      refine ⟨h1.1.keep fun k hk => hg.block k (h1.1.lt k hk).2 fun e => by injection e with e; subst e; exact h.same hpm hk hwb, ?_⟩
      simp only
      have h2 := h1.2
      rw [hw] at h2 ⊢
      exact h2.setI hn j t
    · have h1 := h.ints q (List.mem_of_getElem? hq')
      have hno := h.other hp hq' (fun e => hne e.symm) g hgb
      exact ⟨h1.1.keep fun k hk => hg.block k (h1.1.lt k hk).2 fun e => by injection e with e; subst e; exact hno (mem_two.2 (.inl hk)),
        h1.2.keep fun k hk => hg.block k (h1.2.lt k hk).2 fun e => by injection e with e; subst e; exact hno (mem_two.2 (.inr hk))⟩
theorem ocs_hd : ∀ {os : List (Ob × OSl)} {i : Nat} {p : Ob × OSl} (t : Int), os[i]? = some p → ocs (os.set i ({ p.1 with hd := t }, p.2)) = (ocs os).set (i * 5) (.int .i64 t)
  | [], i, p, t, h => by simp at h
  | q :: s, 0, p, t, h => by
    simp at h
    subst h
    rfl
  | q :: s, i + 1, p, t, h => by
    have h1 : ∀ r : List (Ob × OSl), ocs (q :: r) = oc q ++ ocs r := fun r => by simp [ocs]
    have hq : (oc q).length = 5 := rfl
    rw [List.set_cons_succ, h1, h1, ocs_hd t (by simpa using h), List.set_append_right _ _ (by omega), hq, show (i + 1) * 5 - 5 = i * 5 by omega]
/-- A handle is stored. -/
theorem OwnOs.setH {g n c : Nat} (h : OwnOs U I w base (.slice (some ⟨g, 0, none⟩) n c) os) (hUI : U ≠ I) (hn : os.length = n) {i : Nat} {p : Ob × OSl} (hp : os[i]? = some p) (t : Int) :
    OwnOs U I (w.setCell ⟨g, i * 5, none⟩ (.int .i64 t)) base (.slice (some ⟨g, 0, none⟩) n c) (os.set i ({ p.1 with hd := t }, p.2)) := by
  have hg := grown_set w g (i * 5) (.int .i64 t)
  have hi := (List.getElem?_eq_some_iff.1 hp).1
  have hb : ∀ k ∈ blocksOf os, some k ≠ some g := fun k hk e => h.row_ne hUI k hk (by injection e with e; subst e; rfl)
  have hint := fun q (hq : q ∈ os) => h.ints q hq
  refine ⟨?_, fun q hq => ?_, by rw [blocksOf_set hp]; exact h.apart⟩
  · have hr := h.row
    rw [List.length_set, ocs_hd t hp]
    rw [hn] at hr ⊢
    exact (World.ownsRow.stored hr (i * 5) _).1
  · have key : ∀ q', q' ∈ os → OwnV I (w.setCell ⟨g, i * 5, none⟩ (.int .i64 t)) base q'.2.wv (ivs q'.1.ws) ∧ OwnV I (w.setCell ⟨g, i * 5, none⟩ (.int .i64 t)) base q'.2.lv (ivs q'.1.ls) := fun q' hq' =>
      ⟨(hint q' hq').1.keep fun k hk => hg.block k ((hint q' hq').1.lt k hk).2 (hb k (mem_blocks.2 ⟨q', hq', .inl hk⟩)), (hint q' hq').2.keep fun k hk => hg.block k ((hint q' hq').2.lt k hk).2 (hb k (mem_blocks.2 ⟨q', hq', .inr hk⟩))⟩
    rcases set_mem hq hi with e | ⟨i', _, hq'⟩
    · subst e
      exact key p (List.mem_of_getElem? hp)
    · exact key q (List.mem_of_getElem? hq')
end
end Go.Proofs.YtkbggbgnnllmjaaGreatDoor
namespace Go.Proofs.YtkbggbgnnllmjaaGreatDoor
open Go.RowKit

theorem row_form {w : World} {base s n : Nat} {U : TypeId} {v : Value} {xs : List Value} (h : w.ownsRow base U s v n xs) (hn : 0 < n) : ∃ g cap, v = .slice (some ⟨g, 0, none⟩) n cap ∧ base ≤ g ∧ g < w.heap.size := by
  rcases h.2 with ⟨_, h0⟩ | ⟨g, cap, cur, hv, hb, hh, _⟩
  · omega
  · exact ⟨g, cap, hv, hb, (Array.getElem?_eq_some_iff.1 hh).1⟩
/-- The same addresses and lengths. -/
def Alike (os os' : List (Ob × OSl)) : Prop := os'.length = os.length ∧ ∀ (i : Nat) (p p' : Ob × OSl), os[i]? = some p → os'[i]? = some p' → p'.2 = p.2 ∧ p'.1.ws.length = p.1.ws.length ∧ p'.1.ls.length = p.1.ls.length
theorem Alike.refl (os : List (Ob × OSl)) : Alike os os := ⟨rfl, fun i p p' h h' => by rw [h] at h'; injection h' with e; subst e; exact ⟨rfl, rfl, rfl⟩⟩
theorem Alike.set {os os' : List (Ob × OSl)} (h : Alike os os') {i : Nat} {p : Ob × OSl} {x : Ob} (hp : os'[i]? = some p) (hw : x.ws.length = p.1.ws.length) (hl : x.ls.length = p.1.ls.length) : Alike os (os'.set i (x, p.2)) := by
  refine ⟨by rw [List.length_set]; exact h.1, fun j q q' hq hq' => ?_⟩
  by_cases e : i = j
  · subst e
    have hi := (List.getElem?_eq_some_iff.1 hp).1
    rw [List.getElem?_set_self hi] at hq'
    injection hq' with hq'
    subst hq'
    obtain ⟨a, b, c⟩ := h.2 i q p hq hp
    exact ⟨a, hw.trans b, hl.trans c⟩
  · rw [List.getElem?_set_ne e] at hq'
    exact h.2 j q q' hq hq'
/-- Memory while it is written over. -/
structure OvMem (w : World) (base : Nat) (cs : List Value) (v vF : Value) (os : List (Ob × OSl)) (m : Nat) (os' : List (Ob × OSl)) (fr : List Blk) (W : World) : Prop where
  own : OwnOs 52 3 W base v os'
  like : Alike os os'
  free : OwnB 49 W base vF fr
  len : fr.length = m
  box : Whole W w.heap.size 26 cs
  bel : Below base w W
section
variable {w W : World} {base m : Nat} {cs : List Value} {v vF : Value} {os os' : List (Ob × OSl)} {fr : List Blk}
theorem free_ne (hF : OwnB 49 W base vF fr) (h : OwnOs 52 3 W base v os') : ∀ k, vF.ownBlock = some k → k ∉ blocksOf os' ∧ v.ownBlock ≠ some k := by
  intro k hk
  obtain ⟨c1, h1⟩ := row_type hF hk
  constructor
  · intro hm
    obtain ⟨p, hp, e⟩ := mem_blocks.1 hm
    have h2 : ∃ cur, W.heap[k]? = some (.cells cur 3 (0, 0)) := by
      rcases e with e | e
      · exact row_type (h.ints p hp).1 e
      · exact row_type (h.ints p hp).2 e
    obtain ⟨c2, h2⟩ := h2
    rw [h1] at h2
    injection h2 with h2
    injection h2 with _ h3
    exact absurd h3 (by decide)
  · intro e
    obtain ⟨c2, h2⟩ := row_type h.row e
    rw [h1] at h2
    injection h2 with h2
    injection h2 with _ h3
    exact absurd h3 (by decide)
theorem OvMem.word (M : OvMem w base cs v vF os m os' fr W) {i j g n c : Nat} {p : Ob × OSl} (hp : os'[i]? = some p) (hw : p.2.wv = .slice (some ⟨g, 0, none⟩) n c) (hn : p.1.ws.length = n) (hb : base ≤ w.heap.size) (hg : g ≠ w.heap.size) (t : Int) :
    OvMem w base cs v vF os m (os'.set i ({ p.1 with ws := p.1.ws.set j t }, p.2)) fr (W.setCell ⟨g, j, none⟩ (.int .i64 t)) := by
  have gs := grown_set W g j (.int .i64 t)
  have hgm : g ∈ blocksOf os' := mem_blocks.2 ⟨p, List.mem_of_getElem? hp, .inl (by rw [hw]; rfl)⟩
  refine ⟨M.own.setW (by decide) hp hw hn t, M.like.set hp (by simp) rfl, M.free.grown gs (fun k hk e => ?_), M.len, M.box.grown gs (fun e => hg e.symm), below_grown M.bel gs (Nat.le_trans hb M.bel.size) (M.own.lt g hgm).1⟩
  injection e with e
  subst e
  exact (free_ne M.free M.own _ hk).1 hgm
theorem OvMem.link (M : OvMem w base cs v vF os m os' fr W) {i j g n c : Nat} {p : Ob × OSl} (hp : os'[i]? = some p) (hw : p.2.lv = .slice (some ⟨g, 0, none⟩) n c) (hn : p.1.ls.length = n) (hb : base ≤ w.heap.size) (hg : g ≠ w.heap.size) (t : Int) :
    OvMem w base cs v vF os m (os'.set i ({ p.1 with ls := p.1.ls.set j t }, p.2)) fr (W.setCell ⟨g, j, none⟩ (.int .i64 t)) := by
  have gs := grown_set W g j (.int .i64 t)
  have hgm : g ∈ blocksOf os' := mem_blocks.2 ⟨p, List.mem_of_getElem? hp, .inr (by rw [hw]; rfl)⟩
  refine ⟨M.own.setL (by decide) hp hw hn t, M.like.set hp rfl (by simp), M.free.grown gs (fun k hk e => ?_), M.len, M.box.grown gs (fun e => hg e.symm), below_grown M.bel gs (Nat.le_trans hb M.bel.size) (M.own.lt g hgm).1⟩
  injection e with e
  subst e
  exact (free_ne M.free M.own _ hk).1 hgm
/-- No block of the rows is the box. -/
theorem OvMem.nobox (M : OvMem w base cs v vF os m os' fr W) : (∀ k ∈ blocksOf os', k ≠ w.heap.size) ∧ (∀ k, v.ownBlock = some k → k ≠ w.heap.size) ∧ ∀ k, vF.ownBlock = some k → k ≠ w.heap.size := by
  have hbx := M.box
  unfold Whole at hbx
  refine ⟨fun k hk e => ?_, fun k hk e => ?_, fun k hk e => ?_⟩
  · subst e
    obtain ⟨p, hp, e⟩ := mem_blocks.1 hk
    have h2 : ∃ cur, W.heap[w.heap.size]? = some (.cells cur 3 (0, 0)) := by
      rcases e with e | e
      · exact row_type (M.own.ints p hp).1 e
      · exact row_type (M.own.ints p hp).2 e
    obtain ⟨c2, h2⟩ := h2
    rw [hbx] at h2
    injection h2 with h2
    injection h2 with _ h3
    exact absurd h3 (by decide)
  · subst e
    obtain ⟨c2, h2⟩ := row_type M.own.row hk
    rw [hbx] at h2
    injection h2 with h2
    injection h2 with _ h3
    exact absurd h3 (by decide)
  · subst e
    obtain ⟨c2, h2⟩ := row_type M.free hk
    rw [hbx] at h2
    injection h2 with h2
    injection h2 with _ h3
    exact absurd h3 (by decide)
theorem OvMem.head {g n c : Nat} (M : OvMem w base cs (.slice (some ⟨g, 0, none⟩) n c) vF os m os' fr W) (hn : os'.length = n) {i : Nat} {p : Ob × OSl} (hp : os'[i]? = some p) (hb : base ≤ w.heap.size) (t : Int) :
    OvMem w base cs (.slice (some ⟨g, 0, none⟩) n c) vF os m (os'.set i ({ p.1 with hd := t }, p.2)) fr (W.setCell ⟨g, i * 5, none⟩ (.int .i64 t)) := by
  have gs := grown_set W g (i * 5) (.int .i64 t)
  have hg := M.nobox.2.1 g rfl
  refine ⟨M.own.setH (by decide) hn hp t, M.like.set hp rfl rfl, M.free.grown gs (fun k hk e => ?_), M.len, M.box.grown gs (fun e => hg e.symm), below_grown M.bel gs (Nat.le_trans hb M.bel.size) (M.own.row_lt g rfl).1⟩
  injection e with e
  subst e
  exact (free_ne M.free M.own _ hk).2 rfl
end
end Go.Proofs.YtkbggbgnnllmjaaGreatDoor
namespace Go.Proofs.YtkbggbgnnllmjaaGreatDoor
open Go.RowKit

def Ov1 (w : World) (base : Nat) (cs : List Value) (v vF : Value) (os : List (Ob × OSl)) (m : Nat) (i : Value) (wr : World) : Prop :=
  ∃ (k : Nat) (os' : List (Ob × OSl)) (fr : List Blk), k ≤ os.length ∧ i = .int .i64 (k : Int) ∧ OvMem w base cs v vF os m os' fr wr
def Ov2 (w : World) (base : Nat) (cs : List Value) (v vF : Value) (os : List (Ob × OSl)) (m : Nat) (z : Nat) (i : Value) (wr : World) : Prop :=
  ∃ (k : Nat) (os' : List (Ob × OSl)) (fr : List Blk), k ≤ z ∧ i = .int .i64 (k : Int) ∧ OvMem w base cs v vF os m os' fr wr
theorem row_cell {U I : TypeId} {w : World} {base g n c : Nat} {os : List (Ob × OSl)} (h : OwnOs U I w base (.slice (some ⟨g, 0, none⟩) n c) os) {j : Nat} {p : Ob × OSl} (hp : os[j]? = some p) (i : Nat) (u : Value) (hu : (oc p)[i]? = some u) : w.cell? ⟨g, j * 5 + i, none⟩ = some u := by
  have e := World.ownsRow.cells h.row (g := g) rfl _ _ (ocs_get hp i u hu)
  rw [add_plain, Nat.zero_add] at e
  exact e
theorem int_cell {I : TypeId} {w : World} {base g n c : Nat} {l : List Int} (h : OwnV I w base (.slice (some ⟨g, 0, none⟩) n c) (ivs l)) (hn : l.length = n) {j : Nat} (hj : j < n) : (∃ x, w.cell? ⟨g, j, none⟩ = some (.int .i64 x)) ∧ w.frozen? ⟨g, j, none⟩ = false := by
  unfold OwnV at h
  rw [ivs_length, hn] at h
  refine ⟨⟨l[j]'(by omega), ?_⟩, World.ownsRow.frozenAt h j⟩
  have e := World.ownsRow.cells h (g := g) rfl j _ (ivs_get (List.getElem?_eq_getElem (by omega)))
  rw [add_plain, Nat.zero_add] at e
  exact e

theorem bcs_at1 : ∀ {l : List Blk} {j : Nat} {b : Blk} (t : Int), l[j]? = some b → bcs (l.set j (t, b.2)) = (bcs l).set (j * 2) (.int .i64 t)
  | [], j, b, t, h => by simp at h
  | c :: s, 0, b, t, h => by
    simp at h
    subst h
    rfl
  | c :: s, j + 1, b, t, h => by
    rw [List.set_cons_succ, bcs_cons, bcs_cons, bcs_at1 t (by simpa using h), show (j + 1) * 2 = j * 2 + 1 + 1 by omega]
    rfl
theorem setAt1 {U : TypeId} {w : World} {base g cap n : Nat} {l : List Blk} (h : OwnB U w base (.slice (some ⟨g, 0, none⟩) n cap) l) (hn : l.length = n) {j : Nat} {b : Blk} (hb : l[j]? = some b) (t : Int) :
    OwnB U (w.setCell ⟨g, j * 2, none⟩ (.int .i64 t)) base (.slice (some ⟨g, 0, none⟩) n cap) (l.set j (t, b.2)) := by
  unfold OwnB at h ⊢
  rw [List.length_set, hn, bcs_at1 t hb]
  rw [hn] at h
  exact (World.ownsRow.stored h (j * 2) _).1

set_option maxRecDepth 100000 in
set_option maxHeartbeats 4000000 in
theorem over_any (s : HSl) (os : List (Ob × OSl)) (H : Hp) (w : World) (base : Nat) (h : OwnHp w base s os H) (hb : base ≤ w.heap.size) (hn : s.n ≤ 1000) (hm : s.m ≤ 1000) (hl : ∀ p ∈ os, p.1.ws.length ≤ 10000 ∧ p.1.ls.length ≤ 10000) :
    Calls Tryz.prog 16 #[hval H s] w fun e w' => e = .returned (.tuple #[]) ∧ Below base w w' := by
  have b1 := (Below.refl w.heap.size w).alloc (Nat.le_refl _) (.cells (hcs H s).toArray 26)
  have hol : os.length = s.n := by have := h.rd.obs.len; rw [h.obs, List.length_map] at this; exact this
  have M0 := Lib.hid (show OvMem w base (hcs H s) (.slice s.A s.n s.c) (.slice s.F s.m s.d) os s.m os H.fr (w.alloc (.cells (hcs H s).toArray 26)) from
    ⟨h.objs.below b1, Alike.refl os, h.free.below b1, h.rd.fr.len, Whole.new w (hcs H s).toArray 26, b1.mono hb⟩)
  have Hol := Lib.hid hol
  have HL := Lib.hid hl
  have HI := Lib.hid h.objs.ints
  obtain ⟨A, n, c, F, m, d⟩ := s
  clear h hl hol b1
  simp only [hval, hcs] at *
  go_enter Tryz.func16, Tryz.ntmps16
  go_upto_region 2 with (fail)
  obtain ⟨cs, hcs'⟩ : ∃ cs : List Value, cs = [.int .i64 H.od, .slice A n c, .int .i64 H.nx, .int .i64 (tget H 0), .int .i64 (tget H 1), .int .i64 (tget H 2), .int .i64 (tget H 3), .slice F m d] := ⟨_, rfl⟩
  have Hcs1 := Lib.hid (show cs[1]? = some (.slice A n c) by rw [hcs']; rfl)
  have Hcs7 := Lib.hid (show cs[7]? = some (.slice F m d) by rw [hcs']; rfl)
  have M1 := Lib.hid (show Ov1 w base cs (.slice A n c) (.slice F m d) os m (.int .i64 0) (w.alloc (.cells [Value.int .i64 H.od, .slice A n c, .int .i64 H.nx, .int .i64 (tget H 0), .int .i64 (tget H 1), .int .i64 (tget H 2), .int .i64 (tget H 3), .slice F m d].toArray 26)) from
    ⟨0, os, H.fr, Nat.zero_le _, rfl, by rw [hcs']; exact M0.out⟩)
  clear M0 hcs'
  go_loopw [2] (Ov1 w base cs (.slice A n c) (.slice F m d) os m) (fun i _ => n - (intOf i).toNat)
  case atStart => exact M1.out
  case round =>
    clear M1
    obtain ⟨k, os1, fr1, hk, rfl, M⟩ := hrel
    have hkn : k ≤ n := by have := Hol.out; omega
    have c1 := (M.box.cell 1).trans Hcs1.out
    by_cases hlt : k < n
    · have hki : (k : Int) < (n : Int) := by omega
      obtain ⟨p, hp⟩ : ∃ p, os[k]? = some p := ⟨_, List.getElem?_eq_getElem (by have := Hol.out; omega)⟩
      have hpm := List.mem_of_getElem? hp
      obtain ⟨g, cap, hv, _, _⟩ := row_form M.own.row (by rw [M.like.1, Hol.out]; omega)
      injection hv with hv1 _ hv3
      subst hv1
      subst hv3
      obtain ⟨A1, f1, hw1, _, _, _⟩ := (HI.out p hpm).1.shape (n := p.1.ws.length) (ivs_length _)
      obtain ⟨A2, f2, hw2, _, _, _⟩ := (HI.out p hpm).2.shape (n := p.1.ls.length) (ivs_length _)
      have hbd := HL.out p hpm
      obtain ⟨n1, hn1⟩ : ∃ n1, n1 = p.1.ws.length := ⟨_, rfl⟩
      obtain ⟨n2, hn2⟩ : ∃ n2, n2 = p.1.ls.length := ⟨_, rfl⟩
      rw [← hn1] at hw1 hbd
      rw [← hn2] at hw2 hbd
      have Hat := Lib.hid (fun (os' : List (Ob × OSl)) (hA : Alike os os') => show ∃ p', os'[k]? = some p' ∧ p'.2.wv = .slice A1 n1 f1 ∧ p'.2.lv = .slice A2 n2 f2 ∧ p'.1.ws.length = n1 ∧ p'.1.ls.length = n2 from by
        have hl := hA.1
        obtain ⟨p', hp'⟩ : ∃ p', os'[k]? = some p' := ⟨_, List.getElem?_eq_getElem (by have := Hol.out; omega)⟩
        obtain ⟨e1, e2, e3⟩ := hA.2 k p p' hp hp'
        exact ⟨p', hp', by rw [e1]; exact hw1, by rw [e1]; exact hw2, by rw [e2, hn1], by rw [e3, hn2]⟩)
      have hb1 := hbd.1
      have hb2 := hbd.2
      have HM := Lib.hid M
      clear hn1 hn2 hw1 hw2 hbd hp hpm M
      go_upto_region 5 with (fail)
      clear c1
      go_loopw [3] (Ov2 w base cs (.slice (some ⟨g, 0, none⟩) n c) (.slice F m d) os m n1) (fun i _ => n1 - (intOf i).toNat)
      case atStart => exact ⟨0, os1, fr1, Nat.zero_le _, rfl, HM.out⟩
      case round =>
        clear HM
        obtain ⟨q, os2, fr2, hq, rfl, M⟩ := hrel
        obtain ⟨p', hp', hw1, hw2, hl1, hl2⟩ := Hat.out os2 M.like
        have c1 := (M.box.cell 1).trans Hcs1.out
        have c3 := row_cell M.own hp' 3 _ rfl
        rw [hw1] at c3
        by_cases hq1 : q < n1
        · have hqi : (q : Int) < (n1 : Int) := by omega
          have hI := (M.own.ints p' (List.mem_of_getElem? hp')).1
          obtain ⟨gw, cw, hvw, _, _⟩ := row_form hI (by rw [ivs_length]; omega)
          rw [hw1] at hvw
          injection hvw with hvw1 _ hvw3
          subst hvw1
          subst hvw3
          rw [hw1] at hI
          obtain ⟨⟨x, hx⟩, fx⟩ := int_cell hI hl1 hq1
          have M3 := Lib.hid (M.word (j := q) hp' hw1 hl1 hb (M.nobox.1 gw (mem_blocks.2 ⟨p', List.mem_of_getElem? hp', .inl (by rw [hw1]; rfl)⟩)) 777)
          clear hI M hw1 hw2 hl1 hl2 hp'
          go_wp2
          go_roundw
          case rel => exact ⟨q + 1, _, _, by omega, by go_num, M3.out⟩
          case measure => simp [intOf]; omega
        · obtain rfl : q = n1 := by omega
          have HM := Lib.hid M
          clear hw1 hw2 hl1 hl2 hp' M
          go_upto_region 9 with (fail)
          clear c1 c3
          go_loopw [4] (Ov2 w base cs (.slice (some ⟨g, 0, none⟩) n c) (.slice F m d) os m n2) (fun i _ => n2 - (intOf i).toNat)
          case atStart => exact ⟨0, os2, fr2, Nat.zero_le _, rfl, HM.out⟩
          case round =>
            clear HM
            obtain ⟨q2, os3, fr3, hq2, rfl, M⟩ := hrel
            obtain ⟨p', hp', hw1, hw2, hl1, hl2⟩ := Hat.out os3 M.like
            have c1 := (M.box.cell 1).trans Hcs1.out
            have c4 := row_cell M.own hp' 4 _ rfl
            rw [hw2] at c4
            by_cases hq3 : q2 < n2
            · have hqi : (q2 : Int) < (n2 : Int) := by omega
              have hI := (M.own.ints p' (List.mem_of_getElem? hp')).2
              obtain ⟨gw, cw, hvw, _, _⟩ := row_form hI (by rw [ivs_length]; omega)
              rw [hw2] at hvw
              injection hvw with hvw1 _ hvw3
              subst hvw1
              subst hvw3
              rw [hw2] at hI
              obtain ⟨⟨x, hx⟩, fx⟩ := int_cell hI hl2 hq3
              have M3 := Lib.hid (M.link (j := q2) hp' hw2 hl2 hb (M.nobox.1 gw (mem_blocks.2 ⟨p', List.mem_of_getElem? hp', .inr (by rw [hw2]; rfl)⟩)) 777)
              clear hI M hw1 hw2 hl1 hl2 hp'
              go_wp2
              go_roundw
              case rel => exact ⟨q2 + 1, _, _, by omega, by go_num, M3.out⟩
              case measure => simp [intOf]; omega
            · obtain rfl : q2 = n2 := by omega
              have c0 := row_cell M.own hp' 0 _ rfl
              simp only [Nat.add_zero] at c0
              have hrw := M.own.row
              rw [show os3.length = n by rw [M.like.1, Hol.out]] at hrw
              have f0 := World.ownsRow.frozenAt hrw (k * 5)
              clear hrw
              have M3 := Lib.hid (M.head (by rw [M.like.1, Hol.out]) hp' hb 777)
              clear hw1 hw2 hl1 hl2 hp' M
              go_wp2
              go_roundw
              case rel => exact ⟨k + 1, _, _, by have := Hol.out; omega, by go_num, M3.out⟩
              case measure => simp [intOf]; omega
    · obtain rfl : k = n := by omega
      have HM := Lib.hid M
      clear M
      go_upto_region 14 with (fail)
      clear c1
      go_loopw [5] (Ov2 w base cs (.slice A k c) (.slice F m d) os m m) (fun i _ => m - (intOf i).toNat)
      case atStart => exact ⟨0, os1, fr1, Nat.zero_le _, rfl, HM.out⟩
      case round =>
        clear HM
        obtain ⟨q, os2, fr2, hq, rfl, M⟩ := hrel
        have c7 := (M.box.cell 7).trans Hcs7.out
        by_cases hq1 : q < m
        · have hqi : (q : Int) < (m : Int) := by omega
          obtain ⟨gf, cf, hvf, _, _⟩ := row_form M.free (by rw [M.len]; omega)
          injection hvf with hvf1 _ hvf3
          subst hvf1
          subst hvf3
          obtain ⟨b, hbk⟩ : ∃ b, fr2[q]? = some b := ⟨_, List.getElem?_eq_getElem (by rw [M.len]; omega)⟩
          have cx := (M.free.cell M.len hbk).1
          have fx := M.free.free M.len (q * 2)
          have gs := grown_set wr gf (q * 2) (.int .i64 777)
          have M3 := Lib.hid (show OvMem w base cs (.slice A k c) (.slice (some ⟨gf, 0, none⟩) m d) os m os2 (fr2.set q (777, b.2)) (wr.setCell ⟨gf, q * 2, none⟩ (.int .i64 777)) from
            ⟨M.own.grown gs (fun j hj e => by injection e with e; subst e; exact (free_ne M.free M.own _ rfl).2 hj) (fun j hj e => by injection e with e; subst e; exact (free_ne M.free M.own _ rfl).1 hj), M.like, setAt1 M.free M.len hbk 777, by rw [List.length_set]; exact M.len, M.box.grown gs (fun e => M.nobox.2.2 gf rfl e.symm), below_grown M.bel gs (Nat.le_trans hb M.bel.size) (M.free.lt gf rfl).1⟩)
          clear gs M hbk
          go_wp2
          go_roundw
          case rel => exact ⟨q + 1, _, _, by omega, by go_num, M3.out⟩
          case measure => simp [intOf]; omega
        · obtain rfl : q = m := by omega
          have hB := Lib.hid M.bel
          clear M
          go_wp2
          go_end0
          exact ⟨rfl, hB.out⟩
end Go.Proofs.YtkbggbgnnllmjaaGreatDoor

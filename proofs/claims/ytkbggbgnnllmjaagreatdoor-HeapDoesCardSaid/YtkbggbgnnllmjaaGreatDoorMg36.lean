/-
  The document's operations on one object: contract.
-/
import Derived.Test.YtkbggbgnnllmjaaGreatDoorMg35
import Derived.Deep.RegionHeld3
namespace Go.Proofs.YtkbggbgnnllmjaaGreatDoor
open Go.RowKit

theorem OwnHp.otherT {w w' : World} {base p : Nat} {t : TypeId} {s : HSl} {os : List (Ob × OSl)} {H : Hp} {cs : List Value} (h : OwnHp w base s os H) (K : Whole w p t cs) (h1 : t ≠ 52) (h2 : t ≠ 3) (h3 : t ≠ 49) (hg : w.grownBy w' (some p)) : OwnHp w' base s os H := by
  have hI : ∀ k ∈ blocksOf os, some k ≠ some p := fun k hk e => by
    injection e with e
    subst e
    obtain ⟨q, hq, e2⟩ := mem_blocks.1 hk
    have : ∃ c2, w.heap[k]? = some (.cells c2 3 (0, 0)) := by
      rcases e2 with e2 | e2
      · exact row_type (h.objs.ints q hq).1 e2
      · exact row_type (h.objs.ints q hq).2 e2
    obtain ⟨c2, h4⟩ := this
    exact absurd (heap_types K h4) h2
  exact ⟨h.objs.grown hg (fun k hk e => by
      injection e with e
      subst e
      obtain ⟨c1, h4⟩ := row_type h.objs.row hk
      exact absurd (heap_types K h4) h1) hI, h.obs, h.free.grown hg (fun k hk e => by
      injection e with e
      subst e
      obtain ⟨c1, h4⟩ := row_type h.free hk
      exact absurd (heap_types K h4) h3), h.tp, h.nx⟩
theorem limits {H : Hp} (k : RightH H) : ∀ x ∈ H.obs, x.ls.length ≤ 1000 := fun x hx => by
  have h1 := (k.ok x hx).2.2
  have h2 := needI_in (w := x.ws.length) (l := x.ls.length) (by rw [h1.1]; exact h1.2.1.1)
  omega
theorem obj_out {H : Hp} {o : Opn} {i : Nat} {x : Ob} (h2 : o.k ≠ 2) (hi : ¬ (0 ≤ o.i ∧ o.i < ((rowH o x).length : Int))) : objH H o i x = (H, 52, 0) := by
  unfold objH
  rw [if_neg h2, if_pos hi]
theorem map_fst_set (os : List (Ob × OSl)) (i : Nat) (x : Ob) (a : OSl) : (os.set i (x, a)).map (·.1) = (os.map (·.1)).set i x := by rw [List.map_set]

set_option maxRecDepth 100000 in
set_option maxHeartbeats 3000000 in
theorem refObject_none (s : HSl) (os : List (Ob × OSl)) (H : Hp) (o : Opn) (w : World) (base : Nat) (O : OwnHp w base s os H) (hb : base ≤ w.heap.size) :
    Calls Tryz.prog 73 #[hval H s, opv o, .int .i64 (-1)] w (InPost w base (H, 51, 0)) := by
  have FM := FnMem.start w (hcs H s) (opcs o)
  have HO := Lib.hid O
  obtain ⟨A, n, c, F, m, d⟩ := s
  obtain ⟨ok, oh, oi, on, okk, ov, ot⟩ := o
  clear O
  simp only [hval, hcs, opv, opcs, zcs, rcs] at *
  go_enter Tryz.func73, Tryz.ntmps73
  go_upto_region 1 with (fail)
  generalize (((w.alloc (.cells _ 26)).alloc (.cells _ 29)).alloc (.cells _ 26)).alloc (.cells _ 34) = W at FM ⊢
  have M := AlMem.start HO.out FM hb
  have k0 := M.kh.cell 0
  have k1 := M.kh.cell 1
  have k2 := M.kh.cell 2
  have k3 := M.kh.cell 3
  have k4 := M.kh.cell 4
  have k5 := M.kh.cell 5
  have k6 := M.kh.cell 6
  have k7 := M.kh.cell 7
  have p0 := M.ko.cell 0
  have p2 := M.ko.cell 2
  have p5 := M.ko.cell 5
  have p6 := M.ko.cell 6
  have r0 := M.kr.cell 0
  have r1 := M.kr.cell 1
  have r2 := M.kr.cell 2
  have r3 := M.kr.cell 3
  have r4 := M.kr.cell 4
  have r5 := M.kr.cell 5
  have r6 := M.kr.cell 6
  have r7 := M.kr.cell 7
  have q0 := M.kq.cell 0
  have q1 := M.kq.cell 1
  simp only [zcs, rcs, List.getElem?_cons_succ, List.getElem?_cons_zero] at k0 k1 k2 k3 k4 k5 k6 k7 p0 p2 p5 p6 r0 r1 r2 r3 r4 r5 r6 r7 q0 q1
  have fr := M.kr.free
  have fq := M.kq.free
  have Hf := Lib.hid (M.fin hb (.int .i64 H.od) (.slice A n c) (.int .i64 H.nx) (.int .i64 (tget H 0)) (.int .i64 (tget H 1)) (.int .i64 (tget H 2)) (.int .i64 (tget H 3)) (.slice F m d) (.int .i64 51) (.int .i64 0))
  clear M
  go_wp2
  refine bodyPost_ret (results_two rfl _ _ (w.heap.size + 1 + 1) (w.heap.size + 1 + 1 + 1) rfl rfl Hf.out.kr Hf.out.kq) rfl ?_
  exact ⟨⟨A, n, c, F, m, d⟩, os, rfl, Hf.out.heapOf rfl rfl HO.out.obs rfl HO.out.tp HO.out.nx, Hf.out.bel⟩
set_option maxRecDepth 100000 in
set_option maxHeartbeats 3000000 in
theorem refObject_2 (s : HSl) (os : List (Ob × OSl)) (H : Hp) (o : Opn) (w : World) (base : Nat) (O : OwnHp w base s os H) (hb : base ≤ w.heap.size) (hR : RightH H) (hn : s.n ≤ 1000) (hm : s.m ≤ 1000) (hk : o.k = 2) {i : Nat} {x : Ob} (hf : findO H.obs o.h = some (i, x)) :
    Calls Tryz.prog 73 #[hval H s, opv o, .int .i64 (i : Int)] w (InPost w base (objH H o i x)) := by
  obtain ⟨hx, hxh⟩ := findO_get hf
  have hol : os.length = s.n := by have := O.rd.obs.len; rw [O.obs, List.length_map] at this; exact this
  have hin : i < s.n := by rw [← hol]; have h1 := (List.getElem?_eq_some_iff.1 hx).1; rw [O.obs, List.length_map] at h1; exact h1
  obtain ⟨p, hp, hpx⟩ : ∃ p, os[i]? = some p ∧ p.1 = x := by
    have hx' := hx
    rw [O.obs, List.getElem?_map, Option.map_eq_some_iff] at hx'
    exact hx'
  have hok := (hR.ok x (List.mem_of_getElem? hx)).2.2
  have hdd := needI_in (w := x.ws.length) (l := x.ls.length) (by rw [hok.1]; exact hok.2.1.1)
  have hlim := limits hR
  obtain ⟨A, n, c, F, m, d⟩ := s
  simp only at hol hin hn hm
  obtain ⟨gO, hgO⟩ := row_some (by have h1 := O.objs.row; rw [hol] at h1; exact h1) (by omega : 0 < n)
  simp only at hgO
  subst hgO
  obtain ⟨ok, oh, oi, on, okk, ov, ot⟩ := o
  simp only at hk hf
  subst hk
  have hints := O.objs.ints p (List.mem_of_getElem? hp)
  obtain ⟨A1, f1, hv1, _, _, _⟩ := OwnV.shape hints.1 (n := p.1.ws.length) (ivs_length _)
  obtain ⟨A2, f2, hv2, _, _, _⟩ := OwnV.shape hints.2 (n := p.1.ls.length) (ivs_length _)
  rw [hpx] at hv1 hv2
  obtain ⟨n1, hn1⟩ : ∃ n1, n1 = x.ws.length := ⟨_, rfl⟩
  obtain ⟨n2, hn2⟩ : ∃ n2, n2 = x.ls.length := ⟨_, rfl⟩
  rw [← hn1] at hv1
  rw [← hn2] at hv2
  have hb1 : n1 ≤ 32 := by omega
  have hb2 : n2 ≤ 16 := by omega
  have FM := FnMem.start w (hcs H ⟨some ⟨gO, 0, none⟩, n, c, F, m, d⟩) (opcs ⟨2, oh, oi, on, okk, ov, ot⟩)
  have HO := Lib.hid O
  have HR := Lib.hid hR
  have Hx := Lib.hid hx
  have Hp_ := Lib.hid hp
  have Hpx := Lib.hid hpx
  have Hv1 := Lib.hid hv1
  have Hv2 := Lib.hid hv2
  have Hn1 := Lib.hid hn1
  have Hn2 := Lib.hid hn2
  have Hol := Lib.hid hol
  have Hlim := Lib.hid hlim
  have hii : (i : Int) < (n : Int) := by omega
  have hi0 : decide ((i : Int) < 0) = false := decide_eq_false (by omega)
  clear O hR hx hxh hp hpx hv1 hv2 hn1 hn2 hints hok hdd hol hf hlim
  simp only [hval, hcs, opv, opcs, zcs, rcs] at *
  go_enter Tryz.func73, Tryz.ntmps73
  go_upto_region 1 with (fail)
  generalize (((w.alloc (.cells _ 26)).alloc (.cells _ 29)).alloc (.cells _ 26)).alloc (.cells _ 34) = W at FM ⊢
  have M0 := AlMem.start HO.out FM hb
  have c1 := M0.kh.cell 1
  simp only [List.getElem?_cons_succ, List.getElem?_cons_zero] at c1
  have z0 := row_cell M0.own Hp_.out 0 _ rfl
  have z1 := row_cell M0.own Hp_.out 1 _ rfl
  have z2 := row_cell M0.own Hp_.out 2 _ rfl
  have z3 := row_cell M0.own Hp_.out 3 _ rfl
  have z4 := row_cell M0.own Hp_.out 4 _ rfl
  rw [Hv1.out] at z3
  rw [Hv2.out] at z4
  rw [Hpx.out] at z0 z1 z2
  simp only [Nat.add_zero] at z0
  have ba := (Below.refl W.heap.size W).alloc (Nat.le_refl _) (.cells #[.int .i64 x.hd, .int .i64 x.bl.1, .int .i64 x.bl.2, .slice A1 n1 f1, .slice A2 n2 f2] 52)
  have M := M0.below ba hb
  have Kx := Whole.new W #[.int .i64 x.hd, .int .i64 x.bl.1, .int .i64 x.bl.2, .slice A1 n1 f1, .slice A2 n2 f2] 52
  go_upto_region 4 with (fail)
  obtain ⟨bx, hbx⟩ : ∃ bx, bx = W.heap.size := ⟨_, rfl⟩
  rw [← hbx] at Kx ⊢
  clear c1 z0 z1 z2 z3 z4 ba hbx M0 FM
  generalize W.alloc (.cells _ 52) = W1 at M Kx ⊢
  have x3 := Kx.cell 3
  have x4 := Kx.cell 4
  simp only [List.getElem?_cons_succ, List.getElem?_cons_zero] at x3 x4
  have S := refFree_in ⟨some ⟨gO, 0, none⟩, n, c, F, m, d⟩ os H W1 base (M.heapOf rfl rfl HO.out.obs rfl HO.out.tp HO.out.nx) (by have := M.size; omega) HR.out hn hm Hlim.out Hx.out
  have HM := Lib.hid M
  have Hr := Lib.hid (show objH H ⟨2, oh, oi, on, okk, ov, ot⟩ i x = freeH H i x from by unfold objH; exact if_pos rfl)
  generalize freeH H i x = r at S Hr
  obtain ⟨rH, rc, rv⟩ := r
  simp only [hval, hcs] at S
  have k0 := M.kh.cell 0
  have k1 := M.kh.cell 1
  have k2 := M.kh.cell 2
  have k3 := M.kh.cell 3
  have k4 := M.kh.cell 4
  have k5 := M.kh.cell 5
  have k6 := M.kh.cell 6
  have k7 := M.kh.cell 7
  have p0 := M.ko.cell 0
  have p2 := M.ko.cell 2
  have p5 := M.ko.cell 5
  have p6 := M.ko.cell 6
  have r0 := M.kr.cell 0
  have r1 := M.kr.cell 1
  have r2 := M.kr.cell 2
  have r3 := M.kr.cell 3
  have r4 := M.kr.cell 4
  have r5 := M.kr.cell 5
  have r6 := M.kr.cell 6
  have r7 := M.kr.cell 7
  have q0 := M.kq.cell 0
  have q1 := M.kq.cell 1
  simp only [zcs, rcs, List.getElem?_cons_succ, List.getElem?_cons_zero] at k0 k1 k2 k3 k4 k5 k6 k7 p0 p2 p5 p6 r0 r1 r2 r3 r4 r5 r6 r7 q0 q1
  have fr := M.kr.free
  have fq := M.kq.free
  clear M r0 r1 r2 r3 r4 r5 r6 r7 q0 q1 fr fq
  go_wp2_with (go_at_call 99; refine S.mono ?_; rintro e w2 ⟨⟨A9, n9, c9, F9, m9, d9⟩, os9, rfl, o9, b9, kp9⟩; simp only [hval, hcs]; have KR := HM.out.kr.keep (kp9 _ HM.out.kr.lt fun h => by have := HM.out.nob.2.1 _ h; omega); have KQ := HM.out.kq.keep (kp9 _ HM.out.kq.lt fun h => by have := HM.out.nob.2.1 _ h; omega); have r0 := KR.cell 0; have r1 := KR.cell 1; have r2 := KR.cell 2; have r3 := KR.cell 3; have r4 := KR.cell 4; have r5 := KR.cell 5; have r6 := KR.cell 6; have r7 := KR.cell 7; have q0 := KQ.cell 0; have q1 := KQ.cell 1; simp only [zcs, rcs, List.getElem?_cons_succ, List.getElem?_cons_zero] at r0 r1 r2 r3 r4 r5 r6 r7 q0 q1; have fr := KR.free; have fq := KQ.free; have HKR := Lib.hid KR; have HKQ := Lib.hid KQ; clear KR KQ kp9)
  have g8 := grown_set8 w2 (w.heap.size + 1 + 1) (.int .i64 rH.od) (.slice A9 n9 c9) (.int .i64 rH.nx) (.int .i64 (tget rH 0)) (.int .i64 (tget rH 1)) (.int .i64 (tget rH 2)) (.int .i64 (tget rH 3)) (.slice F9 m9 d9)
  have KR8 := (((((((HKR.out.set 0 (.int .i64 rH.od)).set 1 (.slice A9 n9 c9)).set 2 (.int .i64 rH.nx)).set 3 (.int .i64 (tget rH 0))).set 4 (.int .i64 (tget rH 1))).set 5 (.int .i64 (tget rH 2))).set 6 (.int .i64 (tget rH 3))).set 7 (.slice F9 m9 d9)
  have KQ8 := HKQ.out.grown g8 (by omega)
  have o10 := o9.otherT HKR.out (by decide) (by decide) (by decide) g8
  have hz := HM.out.bel.size
  have b10 := below_grown (HM.out.bel.trans b9) g8 (by have := b9.size; omega) (by omega)
  generalize ((((((((w2.setCell ⟨w.heap.size + 1 + 1, 0, none⟩ _).setCell ⟨w.heap.size + 1 + 1, 1, none⟩ _).setCell ⟨w.heap.size + 1 + 1, 2, none⟩ _).setCell ⟨w.heap.size + 1 + 1, 3, none⟩ _).setCell ⟨w.heap.size + 1 + 1, 4, none⟩ _).setCell ⟨w.heap.size + 1 + 1, 5, none⟩ _).setCell ⟨w.heap.size + 1 + 1, 6, none⟩ _).setCell ⟨w.heap.size + 1 + 1, 7, none⟩ _) = w8 at KR8 KQ8 o10 b10 ⊢
  have g2 := grown_trans (grown_set w8 (w.heap.size + 1 + 1 + 1) 0 (.int .i64 rc)) (grown_set _ (w.heap.size + 1 + 1 + 1) 1 (.int .i64 rv))
  have KQ9 := (KQ8.set 0 (.int .i64 rc)).set 1 (.int .i64 rv)
  have KR9 := KR8.grown g2 (by omega)
  have o11 := o10.otherT KQ8 (by decide) (by decide) (by decide) g2
  have b11 := below_grown b10 g2 (by have := b10.size; omega) (by omega)
  refine bodyPost_ret (results_two rfl _ _ (w.heap.size + 1 + 1) (w.heap.size + 1 + 1 + 1) rfl rfl KR9 KQ9) rfl ?_
  rw [Hr.out]
  exact ⟨⟨A9, n9, c9, F9, m9, d9⟩, os9, rfl, o11, b11⟩
set_option maxRecDepth 100000 in
set_option maxHeartbeats 3000000 in
theorem refObject_6 (s : HSl) (os : List (Ob × OSl)) (H : Hp) (o : Opn) (w : World) (base : Nat) (O : OwnHp w base s os H) (hb : base ≤ w.heap.size) (hR : RightH H) (hn : s.n ≤ 1000) (hm : s.m ≤ 1000) (hk : o.k = 6) {i : Nat} {x : Ob} (hf : findO H.obs o.h = some (i, x)) :
    Calls Tryz.prog 73 #[hval H s, opv o, .int .i64 (i : Int)] w (InPost w base (objH H o i x)) := by
  obtain ⟨hx, hxh⟩ := findO_get hf
  have hol : os.length = s.n := by have := O.rd.obs.len; rw [O.obs, List.length_map] at this; exact this
  have hin : i < s.n := by rw [← hol]; have h1 := (List.getElem?_eq_some_iff.1 hx).1; rw [O.obs, List.length_map] at h1; exact h1
  obtain ⟨p, hp, hpx⟩ : ∃ p, os[i]? = some p ∧ p.1 = x := by
    have hx' := hx
    rw [O.obs, List.getElem?_map, Option.map_eq_some_iff] at hx'
    exact hx'
  have hok := (hR.ok x (List.mem_of_getElem? hx)).2.2
  have hdd := needI_in (w := x.ws.length) (l := x.ls.length) (by rw [hok.1]; exact hok.2.1.1)
  have hlim := limits hR
  obtain ⟨A, n, c, F, m, d⟩ := s
  simp only at hol hin hn hm
  obtain ⟨gO, hgO⟩ := row_some (by have h1 := O.objs.row; rw [hol] at h1; exact h1) (by omega : 0 < n)
  simp only at hgO
  subst hgO
  obtain ⟨ok, oh, oi, on, okk, ov, ot⟩ := o
  simp only at hk hf
  subst hk
  have hints := O.objs.ints p (List.mem_of_getElem? hp)
  obtain ⟨A1, f1, hv1, _, _, _⟩ := OwnV.shape hints.1 (n := p.1.ws.length) (ivs_length _)
  obtain ⟨A2, f2, hv2, _, _, _⟩ := OwnV.shape hints.2 (n := p.1.ls.length) (ivs_length _)
  rw [hpx] at hv1 hv2
  obtain ⟨n1, hn1⟩ : ∃ n1, n1 = x.ws.length := ⟨_, rfl⟩
  obtain ⟨n2, hn2⟩ : ∃ n2, n2 = x.ls.length := ⟨_, rfl⟩
  rw [← hn1] at hv1
  rw [← hn2] at hv2
  have hb1 : n1 ≤ 32 := by omega
  have hb2 : n2 ≤ 16 := by omega
  have FM := FnMem.start w (hcs H ⟨some ⟨gO, 0, none⟩, n, c, F, m, d⟩) (opcs ⟨6, oh, oi, on, okk, ov, ot⟩)
  have HO := Lib.hid O
  have HR := Lib.hid hR
  have Hx := Lib.hid hx
  have Hp_ := Lib.hid hp
  have Hpx := Lib.hid hpx
  have Hv1 := Lib.hid hv1
  have Hv2 := Lib.hid hv2
  have Hn1 := Lib.hid hn1
  have Hn2 := Lib.hid hn2
  have Hol := Lib.hid hol
  have Hlim := Lib.hid hlim
  have hii : (i : Int) < (n : Int) := by omega
  have hi0 : decide ((i : Int) < 0) = false := decide_eq_false (by omega)
  clear O hR hx hxh hp hpx hv1 hv2 hn1 hn2 hints hok hdd hol hf hlim
  simp only [hval, hcs, opv, opcs, zcs, rcs] at *
  go_enter Tryz.func73, Tryz.ntmps73
  go_upto_region 1 with (fail)
  generalize (((w.alloc (.cells _ 26)).alloc (.cells _ 29)).alloc (.cells _ 26)).alloc (.cells _ 34) = W at FM ⊢
  have M0 := AlMem.start HO.out FM hb
  have c1 := M0.kh.cell 1
  simp only [List.getElem?_cons_succ, List.getElem?_cons_zero] at c1
  have z0 := row_cell M0.own Hp_.out 0 _ rfl
  have z1 := row_cell M0.own Hp_.out 1 _ rfl
  have z2 := row_cell M0.own Hp_.out 2 _ rfl
  have z3 := row_cell M0.own Hp_.out 3 _ rfl
  have z4 := row_cell M0.own Hp_.out 4 _ rfl
  rw [Hv1.out] at z3
  rw [Hv2.out] at z4
  rw [Hpx.out] at z0 z1 z2
  simp only [Nat.add_zero] at z0
  have ba := (Below.refl W.heap.size W).alloc (Nat.le_refl _) (.cells #[.int .i64 x.hd, .int .i64 x.bl.1, .int .i64 x.bl.2, .slice A1 n1 f1, .slice A2 n2 f2] 52)
  have M := M0.below ba hb
  have Kx := Whole.new W #[.int .i64 x.hd, .int .i64 x.bl.1, .int .i64 x.bl.2, .slice A1 n1 f1, .slice A2 n2 f2] 52
  go_upto_region 4 with (fail)
  obtain ⟨bx, hbx⟩ : ∃ bx, bx = W.heap.size := ⟨_, rfl⟩
  rw [← hbx] at Kx ⊢
  clear c1 z0 z1 z2 z3 z4 ba hbx M0 FM
  generalize W.alloc (.cells _ 52) = W1 at M Kx ⊢
  have x3 := Kx.cell 3
  have x4 := Kx.cell 4
  simp only [List.getElem?_cons_succ, List.getElem?_cons_zero] at x3 x4
  have k0 := M.kh.cell 0
  have k1 := M.kh.cell 1
  have k2 := M.kh.cell 2
  have k3 := M.kh.cell 3
  have k4 := M.kh.cell 4
  have k5 := M.kh.cell 5
  have k6 := M.kh.cell 6
  have k7 := M.kh.cell 7
  have p0 := M.ko.cell 0
  have p2 := M.ko.cell 2
  have p5 := M.ko.cell 5
  have p6 := M.ko.cell 6
  have r0 := M.kr.cell 0
  have r1 := M.kr.cell 1
  have r2 := M.kr.cell 2
  have r3 := M.kr.cell 3
  have r4 := M.kr.cell 4
  have r5 := M.kr.cell 5
  have r6 := M.kr.cell 6
  have r7 := M.kr.cell 7
  have q0 := M.kq.cell 0
  have q1 := M.kq.cell 1
  simp only [zcs, rcs, List.getElem?_cons_succ, List.getElem?_cons_zero] at k0 k1 k2 k3 k4 k5 k6 k7 p0 p2 p5 p6 r0 r1 r2 r3 r4 r5 r6 r7 q0 q1
  have fr := M.kr.free
  have fq := M.kq.free
  by_cases dneg : oi < 0
  case pos =>
    have eneg : decide (oi < 0) = true := decide_eq_true dneg
    have Hr := Lib.hid (show objH H ⟨6, oh, oi, on, okk, ov, ot⟩ i x = (H, 52, 0) from obj_out (by simp) (by show ¬ (0 ≤ oi ∧ oi < ((rowH ⟨6, oh, oi, on, okk, ov, ot⟩ x).length : Int)); rw [show rowH ⟨6, oh, oi, on, okk, ov, ot⟩ x = x.ws from if_neg (by simp), ← Hn1.out]; omega))
    have Hf := Lib.hid (M.fin hb (.int .i64 H.od) (.slice (some ⟨gO, 0, none⟩) n c) (.int .i64 H.nx) (.int .i64 (tget H 0)) (.int .i64 (tget H 1)) (.int .i64 (tget H 2)) (.int .i64 (tget H 3)) (.slice F m d) (.int .i64 52) (.int .i64 0))
    clear M
    go_wp2
    refine bodyPost_ret (results_two rfl _ _ (w.heap.size + 1 + 1) (w.heap.size + 1 + 1 + 1) rfl rfl Hf.out.kr Hf.out.kq) rfl ?_
    rw [Hr.out]
    exact ⟨⟨some ⟨gO, 0, none⟩, n, c, F, m, d⟩, os, rfl, Hf.out.heapOf rfl rfl HO.out.obs rfl HO.out.tp HO.out.nx, Hf.out.bel⟩
  have eneg : decide (oi < 0) = false := decide_eq_false dneg
  by_cases dbig : (n1 : Int) ≤ oi
  case pos =>
    have ebig : decide ((n1 : Int) ≤ oi) = true := decide_eq_true dbig
    have Hr := Lib.hid (show objH H ⟨6, oh, oi, on, okk, ov, ot⟩ i x = (H, 52, 0) from obj_out (by simp) (by show ¬ (0 ≤ oi ∧ oi < ((rowH ⟨6, oh, oi, on, okk, ov, ot⟩ x).length : Int)); rw [show rowH ⟨6, oh, oi, on, okk, ov, ot⟩ x = x.ws from if_neg (by simp), ← Hn1.out]; omega))
    have Hf := Lib.hid (M.fin hb (.int .i64 H.od) (.slice (some ⟨gO, 0, none⟩) n c) (.int .i64 H.nx) (.int .i64 (tget H 0)) (.int .i64 (tget H 1)) (.int .i64 (tget H 2)) (.int .i64 (tget H 3)) (.slice F m d) (.int .i64 52) (.int .i64 0))
    clear M
    go_wp2
    refine bodyPost_ret (results_two rfl _ _ (w.heap.size + 1 + 1) (w.heap.size + 1 + 1 + 1) rfl rfl Hf.out.kr Hf.out.kq) rfl ?_
    rw [Hr.out]
    exact ⟨⟨some ⟨gO, 0, none⟩, n, c, F, m, d⟩, os, rfl, Hf.out.heapOf rfl rfl HO.out.obs rfl HO.out.tp HO.out.nx, Hf.out.bel⟩
  have ebig : decide ((n1 : Int) ≤ oi) = false := decide_eq_false dbig
  obtain ⟨j, rfl⟩ := Int.eq_ofNat_of_zero_le (show 0 ≤ oi by omega)
  have hjn : j < n1 := by omega
  have hji : (j : Int) < (n1 : Int) := by omega
  have hj0 : ¬ ((j : Int) < 0) := by omega
  have hI := (M.own.ints p (List.mem_of_getElem? Hp_.out)).1
  obtain ⟨gw, cw, hvw, _, hgw⟩ := row_form hI (by rw [ivs_length, Hpx.out, ← Hn1.out]; omega)
  rw [Hv1.out] at hvw
  injection hvw with hvw1 hvw2 hvw3
  clear hvw2
  subst hvw1
  subst hvw3
  rw [Hv1.out, Hpx.out] at hI
  obtain ⟨t, ht⟩ : ∃ t, x.ws[j]? = some t := ⟨_, List.getElem?_eq_getElem (by rw [← Hn1.out]; exact hjn)⟩
  obtain ⟨hxj, hfj⟩ := own_turn hI Hn1.out.symm ht
  have hgm : gw ∈ blocksOf os := mem_blocks.2 ⟨p, List.mem_of_getElem? Hp_.out, .inl (by rw [Hv1.out]; rfl)⟩
  have hglow : gw < w.heap.size := (HO.out.objs.lt gw hgm).2
  have Hr := Lib.hid (show objH H ⟨6, oh, (j : Int), on, okk, ov, ot⟩ i x = (H, 0, t) from by
    rw [objH_ask (by simp), show rowH ⟨6, oh, (j : Int), on, okk, ov, ot⟩ x = x.ws from if_neg (by simp), if_pos (by rw [← Hn1.out]; simp only; omega)]
    simp only [Int.toNat_natCast]
    rw [List.getD_eq_getElem?_getD, ht]
    rfl)
  have Hf := Lib.hid (M.fin hb (.int .i64 H.od) (.slice (some ⟨gO, 0, none⟩) n c) (.int .i64 H.nx) (.int .i64 (tget H 0)) (.int .i64 (tget H 1)) (.int .i64 (tget H 2)) (.int .i64 (tget H 3)) (.slice F m d) (.int .i64 0) (.int .i64 t))
  have mkS := Lib.hid fun (W' : World) (bl : Below (w.heap.size + 1 + 1) W1 W') => (⟨(bl.cell (p := ⟨w.heap.size, 0, none⟩) (by simp only; omega)).trans k0, (bl.cell (p := ⟨w.heap.size, 1, none⟩) (by simp only; omega)).trans k1, (bl.cell (p := ⟨w.heap.size, 2, none⟩) (by simp only; omega)).trans k2, (bl.cell (p := ⟨w.heap.size, 3, none⟩) (by simp only; omega)).trans k3, (bl.cell (p := ⟨w.heap.size, 4, none⟩) (by simp only; omega)).trans k4, (bl.cell (p := ⟨w.heap.size, 5, none⟩) (by simp only; omega)).trans k5, (bl.cell (p := ⟨w.heap.size, 6, none⟩) (by simp only; omega)).trans k6, (bl.cell (p := ⟨w.heap.size, 7, none⟩) (by simp only; omega)).trans k7, (bl.cell (p := ⟨w.heap.size + 1, 2, none⟩) (by simp only; omega)).trans p2, (bl.cell (p := ⟨gw, j, none⟩) (by simp only; omega)).trans hxj⟩ : W'.cell? ⟨w.heap.size, 0, none⟩ = some (.int .i64 H.od) ∧ W'.cell? ⟨w.heap.size, 1, none⟩ = some (.slice (some ⟨gO, 0, none⟩) n c) ∧ W'.cell? ⟨w.heap.size, 2, none⟩ = some (.int .i64 H.nx) ∧ W'.cell? ⟨w.heap.size, 3, none⟩ = some (.int .i64 (tget H 0)) ∧ W'.cell? ⟨w.heap.size, 4, none⟩ = some (.int .i64 (tget H 1)) ∧ W'.cell? ⟨w.heap.size, 5, none⟩ = some (.int .i64 (tget H 2)) ∧ W'.cell? ⟨w.heap.size, 6, none⟩ = some (.int .i64 (tget H 3)) ∧ W'.cell? ⟨w.heap.size, 7, none⟩ = some (.slice F m d) ∧ W'.cell? ⟨w.heap.size + 1, 2, none⟩ = some (.int .i64 (j : Int)) ∧ W'.cell? ⟨gw, j, none⟩ = some (.int .i64 t))
  clear M hI ht hgm hfj
  go_upto_region 20 with (fail)
  go_region_held3 (fun W' => W'.cell? ⟨w.heap.size, 0, none⟩ = some (.int .i64 H.od) ∧ W'.cell? ⟨w.heap.size, 1, none⟩ = some (.slice (some ⟨gO, 0, none⟩) n c) ∧ W'.cell? ⟨w.heap.size, 2, none⟩ = some (.int .i64 H.nx) ∧ W'.cell? ⟨w.heap.size, 3, none⟩ = some (.int .i64 (tget H 0)) ∧ W'.cell? ⟨w.heap.size, 4, none⟩ = some (.int .i64 (tget H 1)) ∧ W'.cell? ⟨w.heap.size, 5, none⟩ = some (.int .i64 (tget H 2)) ∧ W'.cell? ⟨w.heap.size, 6, none⟩ = some (.int .i64 (tget H 3)) ∧ W'.cell? ⟨w.heap.size, 7, none⟩ = some (.slice F m d) ∧ W'.cell? ⟨w.heap.size + 1, 2, none⟩ = some (.int .i64 (j : Int)) ∧ W'.cell? ⟨gw, j, none⟩ = some (.int .i64 t)) (((with_reducible refine mkS.out _ ?_); ((repeat (first | (with_reducible refine bel_alloc ?_ _) | (with_reducible refine Below.setCell ?_ (by dsimp only; first | omega | (simp; omega)) _) | (with_reducible refine Below.drew ?_))); first | (with_reducible exact Below.refl _ _) | (with_reducible exact trivial)))) (fail)
  all_goals
    go_wp2
    refine bodyPost_ret (results_two rfl _ _ (w.heap.size + 1 + 1) (w.heap.size + 1 + 1 + 1) rfl rfl Hf.out.kr.drew Hf.out.kq.drew) rfl ?_
    rw [Hr.out]
    exact ⟨⟨some ⟨gO, 0, none⟩, n, c, F, m, d⟩, os, rfl, (Hf.out.heapOf rfl rfl HO.out.obs rfl HO.out.tp HO.out.nx).below (Below.refl _ _).drew, Hf.out.bel.drew⟩
set_option maxRecDepth 100000 in
set_option maxHeartbeats 3000000 in
theorem refObject_7 (s : HSl) (os : List (Ob × OSl)) (H : Hp) (o : Opn) (w : World) (base : Nat) (O : OwnHp w base s os H) (hb : base ≤ w.heap.size) (hR : RightH H) (hn : s.n ≤ 1000) (hm : s.m ≤ 1000) (hk : o.k = 7) {i : Nat} {x : Ob} (hf : findO H.obs o.h = some (i, x)) :
    Calls Tryz.prog 73 #[hval H s, opv o, .int .i64 (i : Int)] w (InPost w base (objH H o i x)) := by
  obtain ⟨hx, hxh⟩ := findO_get hf
  have hol : os.length = s.n := by have := O.rd.obs.len; rw [O.obs, List.length_map] at this; exact this
  have hin : i < s.n := by rw [← hol]; have h1 := (List.getElem?_eq_some_iff.1 hx).1; rw [O.obs, List.length_map] at h1; exact h1
  obtain ⟨p, hp, hpx⟩ : ∃ p, os[i]? = some p ∧ p.1 = x := by
    have hx' := hx
    rw [O.obs, List.getElem?_map, Option.map_eq_some_iff] at hx'
    exact hx'
  have hok := (hR.ok x (List.mem_of_getElem? hx)).2.2
  have hdd := needI_in (w := x.ws.length) (l := x.ls.length) (by rw [hok.1]; exact hok.2.1.1)
  have hlim := limits hR
  obtain ⟨A, n, c, F, m, d⟩ := s
  simp only at hol hin hn hm
  obtain ⟨gO, hgO⟩ := row_some (by have h1 := O.objs.row; rw [hol] at h1; exact h1) (by omega : 0 < n)
  simp only at hgO
  subst hgO
  obtain ⟨ok, oh, oi, on, okk, ov, ot⟩ := o
  simp only at hk hf
  subst hk
  have hints := O.objs.ints p (List.mem_of_getElem? hp)
  obtain ⟨A1, f1, hv1, _, _, _⟩ := OwnV.shape hints.1 (n := p.1.ws.length) (ivs_length _)
  obtain ⟨A2, f2, hv2, _, _, _⟩ := OwnV.shape hints.2 (n := p.1.ls.length) (ivs_length _)
  rw [hpx] at hv1 hv2
  obtain ⟨n1, hn1⟩ : ∃ n1, n1 = x.ws.length := ⟨_, rfl⟩
  obtain ⟨n2, hn2⟩ : ∃ n2, n2 = x.ls.length := ⟨_, rfl⟩
  rw [← hn1] at hv1
  rw [← hn2] at hv2
  have hb1 : n1 ≤ 32 := by omega
  have hb2 : n2 ≤ 16 := by omega
  have FM := FnMem.start w (hcs H ⟨some ⟨gO, 0, none⟩, n, c, F, m, d⟩) (opcs ⟨7, oh, oi, on, okk, ov, ot⟩)
  have HO := Lib.hid O
  have HR := Lib.hid hR
  have Hx := Lib.hid hx
  have Hp_ := Lib.hid hp
  have Hpx := Lib.hid hpx
  have Hv1 := Lib.hid hv1
  have Hv2 := Lib.hid hv2
  have Hn1 := Lib.hid hn1
  have Hn2 := Lib.hid hn2
  have Hol := Lib.hid hol
  have Hlim := Lib.hid hlim
  have hii : (i : Int) < (n : Int) := by omega
  have hi0 : decide ((i : Int) < 0) = false := decide_eq_false (by omega)
  clear O hR hx hxh hp hpx hv1 hv2 hn1 hn2 hints hok hdd hol hf hlim
  simp only [hval, hcs, opv, opcs, zcs, rcs] at *
  go_enter Tryz.func73, Tryz.ntmps73
  go_upto_region 1 with (fail)
  generalize (((w.alloc (.cells _ 26)).alloc (.cells _ 29)).alloc (.cells _ 26)).alloc (.cells _ 34) = W at FM ⊢
  have M0 := AlMem.start HO.out FM hb
  have c1 := M0.kh.cell 1
  simp only [List.getElem?_cons_succ, List.getElem?_cons_zero] at c1
  have z0 := row_cell M0.own Hp_.out 0 _ rfl
  have z1 := row_cell M0.own Hp_.out 1 _ rfl
  have z2 := row_cell M0.own Hp_.out 2 _ rfl
  have z3 := row_cell M0.own Hp_.out 3 _ rfl
  have z4 := row_cell M0.own Hp_.out 4 _ rfl
  rw [Hv1.out] at z3
  rw [Hv2.out] at z4
  rw [Hpx.out] at z0 z1 z2
  simp only [Nat.add_zero] at z0
  have ba := (Below.refl W.heap.size W).alloc (Nat.le_refl _) (.cells #[.int .i64 x.hd, .int .i64 x.bl.1, .int .i64 x.bl.2, .slice A1 n1 f1, .slice A2 n2 f2] 52)
  have M := M0.below ba hb
  have Kx := Whole.new W #[.int .i64 x.hd, .int .i64 x.bl.1, .int .i64 x.bl.2, .slice A1 n1 f1, .slice A2 n2 f2] 52
  go_upto_region 4 with (fail)
  obtain ⟨bx, hbx⟩ : ∃ bx, bx = W.heap.size := ⟨_, rfl⟩
  rw [← hbx] at Kx ⊢
  clear c1 z0 z1 z2 z3 z4 ba hbx M0 FM
  generalize W.alloc (.cells _ 52) = W1 at M Kx ⊢
  have x3 := Kx.cell 3
  have x4 := Kx.cell 4
  simp only [List.getElem?_cons_succ, List.getElem?_cons_zero] at x3 x4
  have k0 := M.kh.cell 0
  have k1 := M.kh.cell 1
  have k2 := M.kh.cell 2
  have k3 := M.kh.cell 3
  have k4 := M.kh.cell 4
  have k5 := M.kh.cell 5
  have k6 := M.kh.cell 6
  have k7 := M.kh.cell 7
  have p0 := M.ko.cell 0
  have p2 := M.ko.cell 2
  have p5 := M.ko.cell 5
  have p6 := M.ko.cell 6
  have r0 := M.kr.cell 0
  have r1 := M.kr.cell 1
  have r2 := M.kr.cell 2
  have r3 := M.kr.cell 3
  have r4 := M.kr.cell 4
  have r5 := M.kr.cell 5
  have r6 := M.kr.cell 6
  have r7 := M.kr.cell 7
  have q0 := M.kq.cell 0
  have q1 := M.kq.cell 1
  simp only [zcs, rcs, List.getElem?_cons_succ, List.getElem?_cons_zero] at k0 k1 k2 k3 k4 k5 k6 k7 p0 p2 p5 p6 r0 r1 r2 r3 r4 r5 r6 r7 q0 q1
  have fr := M.kr.free
  have fq := M.kq.free
  by_cases dneg : oi < 0
  case pos =>
    have eneg : decide (oi < 0) = true := decide_eq_true dneg
    have Hr := Lib.hid (show objH H ⟨7, oh, oi, on, okk, ov, ot⟩ i x = (H, 52, 0) from obj_out (by simp) (by show ¬ (0 ≤ oi ∧ oi < ((rowH ⟨7, oh, oi, on, okk, ov, ot⟩ x).length : Int)); rw [show rowH ⟨7, oh, oi, on, okk, ov, ot⟩ x = x.ls from if_pos (by simp), ← Hn2.out]; omega))
    have Hf := Lib.hid (M.fin hb (.int .i64 H.od) (.slice (some ⟨gO, 0, none⟩) n c) (.int .i64 H.nx) (.int .i64 (tget H 0)) (.int .i64 (tget H 1)) (.int .i64 (tget H 2)) (.int .i64 (tget H 3)) (.slice F m d) (.int .i64 52) (.int .i64 0))
    clear M
    go_wp2
    refine bodyPost_ret (results_two rfl _ _ (w.heap.size + 1 + 1) (w.heap.size + 1 + 1 + 1) rfl rfl Hf.out.kr Hf.out.kq) rfl ?_
    rw [Hr.out]
    exact ⟨⟨some ⟨gO, 0, none⟩, n, c, F, m, d⟩, os, rfl, Hf.out.heapOf rfl rfl HO.out.obs rfl HO.out.tp HO.out.nx, Hf.out.bel⟩
  have eneg : decide (oi < 0) = false := decide_eq_false dneg
  by_cases dbig : (n2 : Int) ≤ oi
  case pos =>
    have ebig : decide ((n2 : Int) ≤ oi) = true := decide_eq_true dbig
    have Hr := Lib.hid (show objH H ⟨7, oh, oi, on, okk, ov, ot⟩ i x = (H, 52, 0) from obj_out (by simp) (by show ¬ (0 ≤ oi ∧ oi < ((rowH ⟨7, oh, oi, on, okk, ov, ot⟩ x).length : Int)); rw [show rowH ⟨7, oh, oi, on, okk, ov, ot⟩ x = x.ls from if_pos (by simp), ← Hn2.out]; omega))
    have Hf := Lib.hid (M.fin hb (.int .i64 H.od) (.slice (some ⟨gO, 0, none⟩) n c) (.int .i64 H.nx) (.int .i64 (tget H 0)) (.int .i64 (tget H 1)) (.int .i64 (tget H 2)) (.int .i64 (tget H 3)) (.slice F m d) (.int .i64 52) (.int .i64 0))
    clear M
    go_wp2
    refine bodyPost_ret (results_two rfl _ _ (w.heap.size + 1 + 1) (w.heap.size + 1 + 1 + 1) rfl rfl Hf.out.kr Hf.out.kq) rfl ?_
    rw [Hr.out]
    exact ⟨⟨some ⟨gO, 0, none⟩, n, c, F, m, d⟩, os, rfl, Hf.out.heapOf rfl rfl HO.out.obs rfl HO.out.tp HO.out.nx, Hf.out.bel⟩
  have ebig : decide ((n2 : Int) ≤ oi) = false := decide_eq_false dbig
  obtain ⟨j, rfl⟩ := Int.eq_ofNat_of_zero_le (show 0 ≤ oi by omega)
  have hjn : j < n2 := by omega
  have hji : (j : Int) < (n2 : Int) := by omega
  have hj0 : ¬ ((j : Int) < 0) := by omega
  have hI := (M.own.ints p (List.mem_of_getElem? Hp_.out)).2
  obtain ⟨gw, cw, hvw, _, hgw⟩ := row_form hI (by rw [ivs_length, Hpx.out, ← Hn2.out]; omega)
  rw [Hv2.out] at hvw
  injection hvw with hvw1 hvw2 hvw3
  clear hvw2
  subst hvw1
  subst hvw3
  rw [Hv2.out, Hpx.out] at hI
  obtain ⟨t, ht⟩ : ∃ t, x.ls[j]? = some t := ⟨_, List.getElem?_eq_getElem (by rw [← Hn2.out]; exact hjn)⟩
  obtain ⟨hxj, hfj⟩ := own_turn hI Hn2.out.symm ht
  have hgm : gw ∈ blocksOf os := mem_blocks.2 ⟨p, List.mem_of_getElem? Hp_.out, .inr (by rw [Hv2.out]; rfl)⟩
  have hglow : gw < w.heap.size := (HO.out.objs.lt gw hgm).2
  have Hr := Lib.hid (show objH H ⟨7, oh, (j : Int), on, okk, ov, ot⟩ i x = (H, 0, t) from by
    rw [objH_ask (by simp), show rowH ⟨7, oh, (j : Int), on, okk, ov, ot⟩ x = x.ls from if_pos (by simp), if_pos (by rw [← Hn2.out]; simp only; omega)]
    simp only [Int.toNat_natCast]
    rw [List.getD_eq_getElem?_getD, ht]
    rfl)
  have Hf := Lib.hid (M.fin hb (.int .i64 H.od) (.slice (some ⟨gO, 0, none⟩) n c) (.int .i64 H.nx) (.int .i64 (tget H 0)) (.int .i64 (tget H 1)) (.int .i64 (tget H 2)) (.int .i64 (tget H 3)) (.slice F m d) (.int .i64 0) (.int .i64 t))
  have mkS := Lib.hid fun (W' : World) (bl : Below (w.heap.size + 1 + 1) W1 W') => (⟨(bl.cell (p := ⟨w.heap.size, 0, none⟩) (by simp only; omega)).trans k0, (bl.cell (p := ⟨w.heap.size, 1, none⟩) (by simp only; omega)).trans k1, (bl.cell (p := ⟨w.heap.size, 2, none⟩) (by simp only; omega)).trans k2, (bl.cell (p := ⟨w.heap.size, 3, none⟩) (by simp only; omega)).trans k3, (bl.cell (p := ⟨w.heap.size, 4, none⟩) (by simp only; omega)).trans k4, (bl.cell (p := ⟨w.heap.size, 5, none⟩) (by simp only; omega)).trans k5, (bl.cell (p := ⟨w.heap.size, 6, none⟩) (by simp only; omega)).trans k6, (bl.cell (p := ⟨w.heap.size, 7, none⟩) (by simp only; omega)).trans k7, (bl.cell (p := ⟨w.heap.size + 1, 2, none⟩) (by simp only; omega)).trans p2, (bl.cell (p := ⟨gw, j, none⟩) (by simp only; omega)).trans hxj⟩ : W'.cell? ⟨w.heap.size, 0, none⟩ = some (.int .i64 H.od) ∧ W'.cell? ⟨w.heap.size, 1, none⟩ = some (.slice (some ⟨gO, 0, none⟩) n c) ∧ W'.cell? ⟨w.heap.size, 2, none⟩ = some (.int .i64 H.nx) ∧ W'.cell? ⟨w.heap.size, 3, none⟩ = some (.int .i64 (tget H 0)) ∧ W'.cell? ⟨w.heap.size, 4, none⟩ = some (.int .i64 (tget H 1)) ∧ W'.cell? ⟨w.heap.size, 5, none⟩ = some (.int .i64 (tget H 2)) ∧ W'.cell? ⟨w.heap.size, 6, none⟩ = some (.int .i64 (tget H 3)) ∧ W'.cell? ⟨w.heap.size, 7, none⟩ = some (.slice F m d) ∧ W'.cell? ⟨w.heap.size + 1, 2, none⟩ = some (.int .i64 (j : Int)) ∧ W'.cell? ⟨gw, j, none⟩ = some (.int .i64 t))
  clear M hI ht hgm hfj
  go_upto_region 20 with (fail)
  go_region_held3 (fun W' => W'.cell? ⟨w.heap.size, 0, none⟩ = some (.int .i64 H.od) ∧ W'.cell? ⟨w.heap.size, 1, none⟩ = some (.slice (some ⟨gO, 0, none⟩) n c) ∧ W'.cell? ⟨w.heap.size, 2, none⟩ = some (.int .i64 H.nx) ∧ W'.cell? ⟨w.heap.size, 3, none⟩ = some (.int .i64 (tget H 0)) ∧ W'.cell? ⟨w.heap.size, 4, none⟩ = some (.int .i64 (tget H 1)) ∧ W'.cell? ⟨w.heap.size, 5, none⟩ = some (.int .i64 (tget H 2)) ∧ W'.cell? ⟨w.heap.size, 6, none⟩ = some (.int .i64 (tget H 3)) ∧ W'.cell? ⟨w.heap.size, 7, none⟩ = some (.slice F m d) ∧ W'.cell? ⟨w.heap.size + 1, 2, none⟩ = some (.int .i64 (j : Int)) ∧ W'.cell? ⟨gw, j, none⟩ = some (.int .i64 t)) (((with_reducible refine mkS.out _ ?_); ((repeat (first | (with_reducible refine bel_alloc ?_ _) | (with_reducible refine Below.setCell ?_ (by dsimp only; first | omega | (simp; omega)) _) | (with_reducible refine Below.drew ?_))); first | (with_reducible exact Below.refl _ _) | (with_reducible exact trivial)))) (fail)
  all_goals
    go_wp2
    refine bodyPost_ret (results_two rfl _ _ (w.heap.size + 1 + 1) (w.heap.size + 1 + 1 + 1) rfl rfl Hf.out.kr.drew Hf.out.kq.drew) rfl ?_
    rw [Hr.out]
    exact ⟨⟨some ⟨gO, 0, none⟩, n, c, F, m, d⟩, os, rfl, (Hf.out.heapOf rfl rfl HO.out.obs rfl HO.out.tp HO.out.nx).below (Below.refl _ _).drew, Hf.out.bel.drew⟩
set_option maxRecDepth 100000 in
set_option maxHeartbeats 3000000 in
theorem refObject_3 (s : HSl) (os : List (Ob × OSl)) (H : Hp) (o : Opn) (w : World) (base : Nat) (O : OwnHp w base s os H) (hb : base ≤ w.heap.size) (hR : RightH H) (hn : s.n ≤ 1000) (hm : s.m ≤ 1000) (hk : o.k = 3) {i : Nat} {x : Ob} (hf : findO H.obs o.h = some (i, x)) :
    Calls Tryz.prog 73 #[hval H s, opv o, .int .i64 (i : Int)] w (InPost w base (objH H o i x)) := by
  obtain ⟨hx, hxh⟩ := findO_get hf
  have hol : os.length = s.n := by have := O.rd.obs.len; rw [O.obs, List.length_map] at this; exact this
  have hin : i < s.n := by rw [← hol]; have h1 := (List.getElem?_eq_some_iff.1 hx).1; rw [O.obs, List.length_map] at h1; exact h1
  obtain ⟨p, hp, hpx⟩ : ∃ p, os[i]? = some p ∧ p.1 = x := by
    have hx' := hx
    rw [O.obs, List.getElem?_map, Option.map_eq_some_iff] at hx'
    exact hx'
  have hok := (hR.ok x (List.mem_of_getElem? hx)).2.2
  have hdd := needI_in (w := x.ws.length) (l := x.ls.length) (by rw [hok.1]; exact hok.2.1.1)
  have hlim := limits hR
  obtain ⟨A, n, c, F, m, d⟩ := s
  simp only at hol hin hn hm
  obtain ⟨gO, hgO⟩ := row_some (by have h1 := O.objs.row; rw [hol] at h1; exact h1) (by omega : 0 < n)
  simp only at hgO
  subst hgO
  obtain ⟨ok, oh, oi, on, okk, ov, ot⟩ := o
  simp only at hk hf
  subst hk
  have hints := O.objs.ints p (List.mem_of_getElem? hp)
  obtain ⟨A1, f1, hv1, _, _, _⟩ := OwnV.shape hints.1 (n := p.1.ws.length) (ivs_length _)
  obtain ⟨A2, f2, hv2, _, _, _⟩ := OwnV.shape hints.2 (n := p.1.ls.length) (ivs_length _)
  rw [hpx] at hv1 hv2
  obtain ⟨n1, hn1⟩ : ∃ n1, n1 = x.ws.length := ⟨_, rfl⟩
  obtain ⟨n2, hn2⟩ : ∃ n2, n2 = x.ls.length := ⟨_, rfl⟩
  rw [← hn1] at hv1
  rw [← hn2] at hv2
  have hb1 : n1 ≤ 32 := by omega
  have hb2 : n2 ≤ 16 := by omega
  have FM := FnMem.start w (hcs H ⟨some ⟨gO, 0, none⟩, n, c, F, m, d⟩) (opcs ⟨3, oh, oi, on, okk, ov, ot⟩)
  have HO := Lib.hid O
  have HR := Lib.hid hR
  have Hx := Lib.hid hx
  have Hp_ := Lib.hid hp
  have Hpx := Lib.hid hpx
  have Hv1 := Lib.hid hv1
  have Hv2 := Lib.hid hv2
  have Hn1 := Lib.hid hn1
  have Hn2 := Lib.hid hn2
  have Hol := Lib.hid hol
  have Hlim := Lib.hid hlim
  have hii : (i : Int) < (n : Int) := by omega
  have hi0 : decide ((i : Int) < 0) = false := decide_eq_false (by omega)
  clear O hR hx hxh hp hpx hv1 hv2 hn1 hn2 hints hok hdd hol hf hlim
  simp only [hval, hcs, opv, opcs, zcs, rcs] at *
  go_enter Tryz.func73, Tryz.ntmps73
  go_upto_region 1 with (fail)
  generalize (((w.alloc (.cells _ 26)).alloc (.cells _ 29)).alloc (.cells _ 26)).alloc (.cells _ 34) = W at FM ⊢
  have M0 := AlMem.start HO.out FM hb
  have c1 := M0.kh.cell 1
  simp only [List.getElem?_cons_succ, List.getElem?_cons_zero] at c1
  have z0 := row_cell M0.own Hp_.out 0 _ rfl
  have z1 := row_cell M0.own Hp_.out 1 _ rfl
  have z2 := row_cell M0.own Hp_.out 2 _ rfl
  have z3 := row_cell M0.own Hp_.out 3 _ rfl
  have z4 := row_cell M0.own Hp_.out 4 _ rfl
  rw [Hv1.out] at z3
  rw [Hv2.out] at z4
  rw [Hpx.out] at z0 z1 z2
  simp only [Nat.add_zero] at z0
  have ba := (Below.refl W.heap.size W).alloc (Nat.le_refl _) (.cells #[.int .i64 x.hd, .int .i64 x.bl.1, .int .i64 x.bl.2, .slice A1 n1 f1, .slice A2 n2 f2] 52)
  have M := M0.below ba hb
  have Kx := Whole.new W #[.int .i64 x.hd, .int .i64 x.bl.1, .int .i64 x.bl.2, .slice A1 n1 f1, .slice A2 n2 f2] 52
  go_upto_region 4 with (fail)
  obtain ⟨bx, hbx⟩ : ∃ bx, bx = W.heap.size := ⟨_, rfl⟩
  rw [← hbx] at Kx ⊢
  clear c1 z0 z1 z2 z3 z4 ba hbx M0 FM
  generalize W.alloc (.cells _ 52) = W1 at M Kx ⊢
  have x3 := Kx.cell 3
  have x4 := Kx.cell 4
  simp only [List.getElem?_cons_succ, List.getElem?_cons_zero] at x3 x4
  have k0 := M.kh.cell 0
  have k1 := M.kh.cell 1
  have k2 := M.kh.cell 2
  have k3 := M.kh.cell 3
  have k4 := M.kh.cell 4
  have k5 := M.kh.cell 5
  have k6 := M.kh.cell 6
  have k7 := M.kh.cell 7
  have p0 := M.ko.cell 0
  have p2 := M.ko.cell 2
  have p5 := M.ko.cell 5
  have p6 := M.ko.cell 6
  have r0 := M.kr.cell 0
  have r1 := M.kr.cell 1
  have r2 := M.kr.cell 2
  have r3 := M.kr.cell 3
  have r4 := M.kr.cell 4
  have r5 := M.kr.cell 5
  have r6 := M.kr.cell 6
  have r7 := M.kr.cell 7
  have q0 := M.kq.cell 0
  have q1 := M.kq.cell 1
  simp only [zcs, rcs, List.getElem?_cons_succ, List.getElem?_cons_zero] at k0 k1 k2 k3 k4 k5 k6 k7 p0 p2 p5 p6 r0 r1 r2 r3 r4 r5 r6 r7 q0 q1
  have fr := M.kr.free
  have fq := M.kq.free
  by_cases dneg : oi < 0
  case pos =>
    have eneg : decide (oi < 0) = true := decide_eq_true dneg
    have Hr := Lib.hid (show objH H ⟨3, oh, oi, on, okk, ov, ot⟩ i x = (H, 52, 0) from obj_out (by simp) (by show ¬ (0 ≤ oi ∧ oi < ((rowH ⟨3, oh, oi, on, okk, ov, ot⟩ x).length : Int)); rw [show rowH ⟨3, oh, oi, on, okk, ov, ot⟩ x = x.ws from if_neg (by simp), ← Hn1.out]; omega))
    have Hf := Lib.hid (M.fin hb (.int .i64 H.od) (.slice (some ⟨gO, 0, none⟩) n c) (.int .i64 H.nx) (.int .i64 (tget H 0)) (.int .i64 (tget H 1)) (.int .i64 (tget H 2)) (.int .i64 (tget H 3)) (.slice F m d) (.int .i64 52) (.int .i64 0))
    clear M
    go_wp2
    refine bodyPost_ret (results_two rfl _ _ (w.heap.size + 1 + 1) (w.heap.size + 1 + 1 + 1) rfl rfl Hf.out.kr Hf.out.kq) rfl ?_
    rw [Hr.out]
    exact ⟨⟨some ⟨gO, 0, none⟩, n, c, F, m, d⟩, os, rfl, Hf.out.heapOf rfl rfl HO.out.obs rfl HO.out.tp HO.out.nx, Hf.out.bel⟩
  have eneg : decide (oi < 0) = false := decide_eq_false dneg
  by_cases dbig : (n1 : Int) ≤ oi
  case pos =>
    have ebig : decide ((n1 : Int) ≤ oi) = true := decide_eq_true dbig
    have Hr := Lib.hid (show objH H ⟨3, oh, oi, on, okk, ov, ot⟩ i x = (H, 52, 0) from obj_out (by simp) (by show ¬ (0 ≤ oi ∧ oi < ((rowH ⟨3, oh, oi, on, okk, ov, ot⟩ x).length : Int)); rw [show rowH ⟨3, oh, oi, on, okk, ov, ot⟩ x = x.ws from if_neg (by simp), ← Hn1.out]; omega))
    have Hf := Lib.hid (M.fin hb (.int .i64 H.od) (.slice (some ⟨gO, 0, none⟩) n c) (.int .i64 H.nx) (.int .i64 (tget H 0)) (.int .i64 (tget H 1)) (.int .i64 (tget H 2)) (.int .i64 (tget H 3)) (.slice F m d) (.int .i64 52) (.int .i64 0))
    clear M
    go_wp2
    refine bodyPost_ret (results_two rfl _ _ (w.heap.size + 1 + 1) (w.heap.size + 1 + 1 + 1) rfl rfl Hf.out.kr Hf.out.kq) rfl ?_
    rw [Hr.out]
    exact ⟨⟨some ⟨gO, 0, none⟩, n, c, F, m, d⟩, os, rfl, Hf.out.heapOf rfl rfl HO.out.obs rfl HO.out.tp HO.out.nx, Hf.out.bel⟩
  have ebig : decide ((n1 : Int) ≤ oi) = false := decide_eq_false dbig
  obtain ⟨j, rfl⟩ := Int.eq_ofNat_of_zero_le (show 0 ≤ oi by omega)
  have hjn : j < n1 := by omega
  have hji : (j : Int) < (n1 : Int) := by omega
  have hj0 : ¬ ((j : Int) < 0) := by omega
  have hI := (M.own.ints p (List.mem_of_getElem? Hp_.out)).1
  obtain ⟨gw, cw, hvw, _, hgw⟩ := row_form hI (by rw [ivs_length, Hpx.out, ← Hn1.out]; omega)
  rw [Hv1.out] at hvw
  injection hvw with hvw1 hvw2 hvw3
  clear hvw2
  subst hvw1
  subst hvw3
  rw [Hv1.out, Hpx.out] at hI
  obtain ⟨t, ht⟩ : ∃ t, x.ws[j]? = some t := ⟨_, List.getElem?_eq_getElem (by rw [← Hn1.out]; exact hjn)⟩
  obtain ⟨hxj, hfj⟩ := own_turn hI Hn1.out.symm ht
  have hgm : gw ∈ blocksOf os := mem_blocks.2 ⟨p, List.mem_of_getElem? Hp_.out, .inl (by rw [Hv1.out]; rfl)⟩
  have hglow : gw < w.heap.size := (HO.out.objs.lt gw hgm).2
  have Hr := Lib.hid (show objH H ⟨3, oh, (j : Int), on, okk, ov, ot⟩ i x = ({ H with obs := H.obs.set i { x with ws := x.ws.set j ov } }, 0, 0) from by
    rw [objH_write rfl, if_pos (by rw [← Hn1.out]; simp only; omega)]
    simp only [Int.toNat_natCast])
  have OS := M.own.setW (by decide) (j := j) Hp_.out Hv1.out (by rw [Hpx.out, ← Hn1.out]) ov
  have MN := M.cellOf hb (j := j) (u := .int .i64 ov) hgm OS (blocksOf_set Hp_.out)
  rw [Hpx.out] at MN
  have HMN := Lib.hid MN
  clear M MN OS hI ht hgm r0 r1 r2 r3 r4 r5 r6 r7 q0 q1 fr fq k0 k1 k2 k3 k4 k5 k6 k7
  go_upto_region 14 with (fail)
  have M := HMN.out
  clear hxj hfj p0 p2 p5 p6 x3 x4 Kx
  generalize W1.setCell ⟨gw, j, none⟩ (.int .i64 ov) = W3 at M ⊢
  have k0 := M.kh.cell 0
  have k1 := M.kh.cell 1
  have k2 := M.kh.cell 2
  have k3 := M.kh.cell 3
  have k4 := M.kh.cell 4
  have k5 := M.kh.cell 5
  have k6 := M.kh.cell 6
  have k7 := M.kh.cell 7
  have r0 := M.kr.cell 0
  have r1 := M.kr.cell 1
  have r2 := M.kr.cell 2
  have r3 := M.kr.cell 3
  have r4 := M.kr.cell 4
  have r5 := M.kr.cell 5
  have r6 := M.kr.cell 6
  have r7 := M.kr.cell 7
  have q0 := M.kq.cell 0
  have q1 := M.kq.cell 1
  simp only [zcs, rcs, List.getElem?_cons_succ, List.getElem?_cons_zero] at k0 k1 k2 k3 k4 k5 k6 k7 r0 r1 r2 r3 r4 r5 r6 r7 q0 q1
  have fr := M.kr.free
  have fq := M.kq.free
  have Hf := Lib.hid (M.fin hb (.int .i64 H.od) (.slice (some ⟨gO, 0, none⟩) n c) (.int .i64 H.nx) (.int .i64 (tget H 0)) (.int .i64 (tget H 1)) (.int .i64 (tget H 2)) (.int .i64 (tget H 3)) (.slice F m d) (.int .i64 0) (.int .i64 0))
  clear M HMN
  go_wp2
  refine bodyPost_ret (results_two rfl _ _ (w.heap.size + 1 + 1) (w.heap.size + 1 + 1 + 1) rfl rfl Hf.out.kr Hf.out.kq) rfl ?_
  rw [Hr.out]
  exact ⟨⟨some ⟨gO, 0, none⟩, n, c, F, m, d⟩, (os.set i ({ x with ws := x.ws.set j ov }, p.2)), rfl, Hf.out.heapOf rfl rfl (by show (H.obs.set i _) = _; rw [map_fst_set, HO.out.obs]) rfl HO.out.tp HO.out.nx, Hf.out.bel⟩
set_option maxRecDepth 100000 in
set_option maxHeartbeats 3000000 in
theorem refObject_4 (s : HSl) (os : List (Ob × OSl)) (H : Hp) (o : Opn) (w : World) (base : Nat) (O : OwnHp w base s os H) (hb : base ≤ w.heap.size) (hR : RightH H) (hn : s.n ≤ 1000) (hm : s.m ≤ 1000) (hk : o.k = 4) {i : Nat} {x : Ob} (hf : findO H.obs o.h = some (i, x)) :
    Calls Tryz.prog 73 #[hval H s, opv o, .int .i64 (i : Int)] w (InPost w base (objH H o i x)) := by
  obtain ⟨hx, hxh⟩ := findO_get hf
  have hol : os.length = s.n := by have := O.rd.obs.len; rw [O.obs, List.length_map] at this; exact this
  have hin : i < s.n := by rw [← hol]; have h1 := (List.getElem?_eq_some_iff.1 hx).1; rw [O.obs, List.length_map] at h1; exact h1
  obtain ⟨p, hp, hpx⟩ : ∃ p, os[i]? = some p ∧ p.1 = x := by
    have hx' := hx
    rw [O.obs, List.getElem?_map, Option.map_eq_some_iff] at hx'
    exact hx'
  have hok := (hR.ok x (List.mem_of_getElem? hx)).2.2
  have hdd := needI_in (w := x.ws.length) (l := x.ls.length) (by rw [hok.1]; exact hok.2.1.1)
  have hlim := limits hR
  obtain ⟨A, n, c, F, m, d⟩ := s
  simp only at hol hin hn hm
  obtain ⟨gO, hgO⟩ := row_some (by have h1 := O.objs.row; rw [hol] at h1; exact h1) (by omega : 0 < n)
  simp only at hgO
  subst hgO
  obtain ⟨ok, oh, oi, on, okk, ov, ot⟩ := o
  simp only at hk hf
  subst hk
  have hints := O.objs.ints p (List.mem_of_getElem? hp)
  obtain ⟨A1, f1, hv1, _, _, _⟩ := OwnV.shape hints.1 (n := p.1.ws.length) (ivs_length _)
  obtain ⟨A2, f2, hv2, _, _, _⟩ := OwnV.shape hints.2 (n := p.1.ls.length) (ivs_length _)
  rw [hpx] at hv1 hv2
  obtain ⟨n1, hn1⟩ : ∃ n1, n1 = x.ws.length := ⟨_, rfl⟩
  obtain ⟨n2, hn2⟩ : ∃ n2, n2 = x.ls.length := ⟨_, rfl⟩
  rw [← hn1] at hv1
  rw [← hn2] at hv2
  have hb1 : n1 ≤ 32 := by omega
  have hb2 : n2 ≤ 16 := by omega
  have FM := FnMem.start w (hcs H ⟨some ⟨gO, 0, none⟩, n, c, F, m, d⟩) (opcs ⟨4, oh, oi, on, okk, ov, ot⟩)
  have HO := Lib.hid O
  have HR := Lib.hid hR
  have Hx := Lib.hid hx
  have Hp_ := Lib.hid hp
  have Hpx := Lib.hid hpx
  have Hv1 := Lib.hid hv1
  have Hv2 := Lib.hid hv2
  have Hn1 := Lib.hid hn1
  have Hn2 := Lib.hid hn2
  have Hol := Lib.hid hol
  have Hlim := Lib.hid hlim
  have SL := Lib.hid fun (W : World) (R : RdH W ⟨some ⟨gO, 0, none⟩, n, c, F, m, d⟩ H) => refLeads_any ⟨some ⟨gO, 0, none⟩, n, c, F, m, d⟩ H ot W R hn
  have hii : (i : Int) < (n : Int) := by omega
  have hi0 : decide ((i : Int) < 0) = false := decide_eq_false (by omega)
  clear O hR hx hxh hp hpx hv1 hv2 hn1 hn2 hints hok hdd hol hf hlim
  simp only [hval, hcs, opv, opcs, zcs, rcs] at *
  go_enter Tryz.func73, Tryz.ntmps73
  go_upto_region 1 with (fail)
  generalize (((w.alloc (.cells _ 26)).alloc (.cells _ 29)).alloc (.cells _ 26)).alloc (.cells _ 34) = W at FM ⊢
  have M0 := AlMem.start HO.out FM hb
  have c1 := M0.kh.cell 1
  simp only [List.getElem?_cons_succ, List.getElem?_cons_zero] at c1
  have z0 := row_cell M0.own Hp_.out 0 _ rfl
  have z1 := row_cell M0.own Hp_.out 1 _ rfl
  have z2 := row_cell M0.own Hp_.out 2 _ rfl
  have z3 := row_cell M0.own Hp_.out 3 _ rfl
  have z4 := row_cell M0.own Hp_.out 4 _ rfl
  rw [Hv1.out] at z3
  rw [Hv2.out] at z4
  rw [Hpx.out] at z0 z1 z2
  simp only [Nat.add_zero] at z0
  have ba := (Below.refl W.heap.size W).alloc (Nat.le_refl _) (.cells #[.int .i64 x.hd, .int .i64 x.bl.1, .int .i64 x.bl.2, .slice A1 n1 f1, .slice A2 n2 f2] 52)
  have M := M0.below ba hb
  have Kx := Whole.new W #[.int .i64 x.hd, .int .i64 x.bl.1, .int .i64 x.bl.2, .slice A1 n1 f1, .slice A2 n2 f2] 52
  go_upto_region 4 with (fail)
  obtain ⟨bx, hbx⟩ : ∃ bx, bx = W.heap.size := ⟨_, rfl⟩
  rw [← hbx] at Kx ⊢
  clear c1 z0 z1 z2 z3 z4 ba hbx M0 FM
  generalize W.alloc (.cells _ 52) = W1 at M Kx ⊢
  have x3 := Kx.cell 3
  have x4 := Kx.cell 4
  simp only [List.getElem?_cons_succ, List.getElem?_cons_zero] at x3 x4
  have k0 := M.kh.cell 0
  have k1 := M.kh.cell 1
  have k2 := M.kh.cell 2
  have k3 := M.kh.cell 3
  have k4 := M.kh.cell 4
  have k5 := M.kh.cell 5
  have k6 := M.kh.cell 6
  have k7 := M.kh.cell 7
  have p0 := M.ko.cell 0
  have p2 := M.ko.cell 2
  have p5 := M.ko.cell 5
  have p6 := M.ko.cell 6
  have r0 := M.kr.cell 0
  have r1 := M.kr.cell 1
  have r2 := M.kr.cell 2
  have r3 := M.kr.cell 3
  have r4 := M.kr.cell 4
  have r5 := M.kr.cell 5
  have r6 := M.kr.cell 6
  have r7 := M.kr.cell 7
  have q0 := M.kq.cell 0
  have q1 := M.kq.cell 1
  simp only [zcs, rcs, List.getElem?_cons_succ, List.getElem?_cons_zero] at k0 k1 k2 k3 k4 k5 k6 k7 p0 p2 p5 p6 r0 r1 r2 r3 r4 r5 r6 r7 q0 q1
  have fr := M.kr.free
  have fq := M.kq.free
  by_cases dneg : oi < 0
  case pos =>
    have eneg : decide (oi < 0) = true := decide_eq_true dneg
    have Hr := Lib.hid (show objH H ⟨4, oh, oi, on, okk, ov, ot⟩ i x = (H, 52, 0) from obj_out (by simp) (by show ¬ (0 ≤ oi ∧ oi < ((rowH ⟨4, oh, oi, on, okk, ov, ot⟩ x).length : Int)); rw [show rowH ⟨4, oh, oi, on, okk, ov, ot⟩ x = x.ls from if_pos (by simp), ← Hn2.out]; omega))
    have Hf := Lib.hid (M.fin hb (.int .i64 H.od) (.slice (some ⟨gO, 0, none⟩) n c) (.int .i64 H.nx) (.int .i64 (tget H 0)) (.int .i64 (tget H 1)) (.int .i64 (tget H 2)) (.int .i64 (tget H 3)) (.slice F m d) (.int .i64 52) (.int .i64 0))
    clear M
    go_wp2
    refine bodyPost_ret (results_two rfl _ _ (w.heap.size + 1 + 1) (w.heap.size + 1 + 1 + 1) rfl rfl Hf.out.kr Hf.out.kq) rfl ?_
    rw [Hr.out]
    exact ⟨⟨some ⟨gO, 0, none⟩, n, c, F, m, d⟩, os, rfl, Hf.out.heapOf rfl rfl HO.out.obs rfl HO.out.tp HO.out.nx, Hf.out.bel⟩
  have eneg : decide (oi < 0) = false := decide_eq_false dneg
  by_cases dbig : (n2 : Int) ≤ oi
  case pos =>
    have ebig : decide ((n2 : Int) ≤ oi) = true := decide_eq_true dbig
    have Hr := Lib.hid (show objH H ⟨4, oh, oi, on, okk, ov, ot⟩ i x = (H, 52, 0) from obj_out (by simp) (by show ¬ (0 ≤ oi ∧ oi < ((rowH ⟨4, oh, oi, on, okk, ov, ot⟩ x).length : Int)); rw [show rowH ⟨4, oh, oi, on, okk, ov, ot⟩ x = x.ls from if_pos (by simp), ← Hn2.out]; omega))
    have Hf := Lib.hid (M.fin hb (.int .i64 H.od) (.slice (some ⟨gO, 0, none⟩) n c) (.int .i64 H.nx) (.int .i64 (tget H 0)) (.int .i64 (tget H 1)) (.int .i64 (tget H 2)) (.int .i64 (tget H 3)) (.slice F m d) (.int .i64 52) (.int .i64 0))
    clear M
    go_wp2
    refine bodyPost_ret (results_two rfl _ _ (w.heap.size + 1 + 1) (w.heap.size + 1 + 1 + 1) rfl rfl Hf.out.kr Hf.out.kq) rfl ?_
    rw [Hr.out]
    exact ⟨⟨some ⟨gO, 0, none⟩, n, c, F, m, d⟩, os, rfl, Hf.out.heapOf rfl rfl HO.out.obs rfl HO.out.tp HO.out.nx, Hf.out.bel⟩
  have ebig : decide ((n2 : Int) ≤ oi) = false := decide_eq_false dbig
  obtain ⟨j, rfl⟩ := Int.eq_ofNat_of_zero_le (show 0 ≤ oi by omega)
  have hjn : j < n2 := by omega
  have hji : (j : Int) < (n2 : Int) := by omega
  have hj0 : ¬ ((j : Int) < 0) := by omega
  have hI := (M.own.ints p (List.mem_of_getElem? Hp_.out)).2
  obtain ⟨gw, cw, hvw, _, hgw⟩ := row_form hI (by rw [ivs_length, Hpx.out, ← Hn2.out]; omega)
  rw [Hv2.out] at hvw
  injection hvw with hvw1 hvw2 hvw3
  clear hvw2
  subst hvw1
  subst hvw3
  rw [Hv2.out, Hpx.out] at hI
  obtain ⟨t, ht⟩ : ∃ t, x.ls[j]? = some t := ⟨_, List.getElem?_eq_getElem (by rw [← Hn2.out]; exact hjn)⟩
  obtain ⟨hxj, hfj⟩ := own_turn hI Hn2.out.symm ht
  have hgm : gw ∈ blocksOf os := mem_blocks.2 ⟨p, List.mem_of_getElem? Hp_.out, .inr (by rw [Hv2.out]; rfl)⟩
  have hglow : gw < w.heap.size := (HO.out.objs.lt gw hgm).2
  have S := SL.out W1 (M.heapOf rfl rfl HO.out.obs rfl HO.out.tp HO.out.nx).rd
  try simp only [hval, hcs] at S
  have HM := Lib.hid M
  clear SL
  by_cases hl : Leads H ot
  case neg =>
    rw [decide_eq_false hl] at S
    have Hr := Lib.hid (show objH H ⟨4, oh, (j : Int), on, okk, ov, ot⟩ i x = (H, 51, 0) from by
      rw [objH_link rfl, if_pos (by rw [← Hn2.out]; simp only; omega), if_neg hl])
    clear M r0 r1 r2 r3 r4 r5 r6 r7 q0 q1 fr fq hl hI ht
    go_upto_region 17 with (go_at_call 67; refine S.mono ?_; rintro e w2 ⟨rfl, g2⟩)
    have M := HM.out.below g2.below hb
    clear k0 k1 k2 k3 k4 k5 k6 k7 p0 p2 p5 p6 x3 x4 Kx S hxj hfj
    have k0 := M.kh.cell 0
    have k1 := M.kh.cell 1
    have k2 := M.kh.cell 2
    have k3 := M.kh.cell 3
    have k4 := M.kh.cell 4
    have k5 := M.kh.cell 5
    have k6 := M.kh.cell 6
    have k7 := M.kh.cell 7
    have r0 := M.kr.cell 0
    have r1 := M.kr.cell 1
    have r2 := M.kr.cell 2
    have r3 := M.kr.cell 3
    have r4 := M.kr.cell 4
    have r5 := M.kr.cell 5
    have r6 := M.kr.cell 6
    have r7 := M.kr.cell 7
    have q0 := M.kq.cell 0
    have q1 := M.kq.cell 1
    simp only [zcs, rcs, List.getElem?_cons_succ, List.getElem?_cons_zero] at k0 k1 k2 k3 k4 k5 k6 k7 r0 r1 r2 r3 r4 r5 r6 r7 q0 q1
    have fr := M.kr.free
    have fq := M.kq.free
    have Hf := Lib.hid (M.fin hb (.int .i64 H.od) (.slice (some ⟨gO, 0, none⟩) n c) (.int .i64 H.nx) (.int .i64 (tget H 0)) (.int .i64 (tget H 1)) (.int .i64 (tget H 2)) (.int .i64 (tget H 3)) (.slice F m d) (.int .i64 51) (.int .i64 0))
    clear M HM g2
    go_wp2
    refine bodyPost_ret (results_two rfl _ _ (w.heap.size + 1 + 1) (w.heap.size + 1 + 1 + 1) rfl rfl Hf.out.kr Hf.out.kq) rfl ?_
    rw [Hr.out]
    exact ⟨⟨some ⟨gO, 0, none⟩, n, c, F, m, d⟩, os, rfl, Hf.out.heapOf rfl rfl HO.out.obs rfl HO.out.tp HO.out.nx, Hf.out.bel⟩
  rw [decide_eq_true hl] at S
  have Hr := Lib.hid (show objH H ⟨4, oh, (j : Int), on, okk, ov, ot⟩ i x = ({ H with obs := H.obs.set i { x with ls := x.ls.set j ot } }, 0, 0) from by
    rw [objH_link rfl, if_pos (by rw [← Hn2.out]; simp only; omega), if_pos hl]
    simp only [Int.toNat_natCast])
  clear M r0 r1 r2 r3 r4 r5 r6 r7 q0 q1 fr fq hl hI hxj hfj
  have HKx := Lib.hid Kx
  go_upto_region 18 with (go_at_call 67; refine S.mono ?_; rintro e w2 ⟨rfl, g2⟩)
  have M := HM.out.below g2.below hb
  clear k0 k1 k2 k3 k4 k5 k6 k7 p0 p2 p5 p6 x3 x4 Kx S HKx
  have p2 := M.ko.cell 2
  have p6 := M.ko.cell 6
  simp only [List.getElem?_cons_succ, List.getElem?_cons_zero] at p2 p6
  have hI := (M.own.ints p (List.mem_of_getElem? Hp_.out)).2
  rw [Hv2.out, Hpx.out] at hI
  obtain ⟨hxj, hfj⟩ := own_turn hI Hn2.out.symm ht
  have OS := M.own.setL (by decide) (j := j) Hp_.out Hv2.out (by rw [Hpx.out, ← Hn2.out]) ot
  have MN := M.cellOf hb (j := j) (u := .int .i64 ot) hgm OS (blocksOf_set Hp_.out)
  rw [Hpx.out] at MN
  have HMN := Lib.hid MN
  clear M MN OS hI ht hgm HM
  go_upto_region 19 with (fail)
  have M := HMN.out
  clear hxj hfj p2 p6 g2
  generalize w2.setCell ⟨gw, j, none⟩ (.int .i64 ot) = W3 at M ⊢
  have k0 := M.kh.cell 0
  have k1 := M.kh.cell 1
  have k2 := M.kh.cell 2
  have k3 := M.kh.cell 3
  have k4 := M.kh.cell 4
  have k5 := M.kh.cell 5
  have k6 := M.kh.cell 6
  have k7 := M.kh.cell 7
  have r0 := M.kr.cell 0
  have r1 := M.kr.cell 1
  have r2 := M.kr.cell 2
  have r3 := M.kr.cell 3
  have r4 := M.kr.cell 4
  have r5 := M.kr.cell 5
  have r6 := M.kr.cell 6
  have r7 := M.kr.cell 7
  have q0 := M.kq.cell 0
  have q1 := M.kq.cell 1
  simp only [zcs, rcs, List.getElem?_cons_succ, List.getElem?_cons_zero] at k0 k1 k2 k3 k4 k5 k6 k7 r0 r1 r2 r3 r4 r5 r6 r7 q0 q1
  have fr := M.kr.free
  have fq := M.kq.free
  have Hf := Lib.hid (M.fin hb (.int .i64 H.od) (.slice (some ⟨gO, 0, none⟩) n c) (.int .i64 H.nx) (.int .i64 (tget H 0)) (.int .i64 (tget H 1)) (.int .i64 (tget H 2)) (.int .i64 (tget H 3)) (.slice F m d) (.int .i64 0) (.int .i64 0))
  clear M HMN
  go_wp2
  refine bodyPost_ret (results_two rfl _ _ (w.heap.size + 1 + 1) (w.heap.size + 1 + 1 + 1) rfl rfl Hf.out.kr Hf.out.kq) rfl ?_
  rw [Hr.out]
  exact ⟨⟨some ⟨gO, 0, none⟩, n, c, F, m, d⟩, (os.set i ({ x with ls := x.ls.set j ot }, p.2)), rfl, Hf.out.heapOf rfl rfl (by show (H.obs.set i _) = _; rw [map_fst_set, HO.out.obs]) rfl HO.out.tp HO.out.nx, Hf.out.bel⟩
/-- The document's operations on one object. -/
theorem refObject_any (s : HSl) (os : List (Ob × OSl)) (H : Hp) (o : Opn) (w : World) (base : Nat) (O : OwnHp w base s os H) (hb : base ≤ w.heap.size) (hR : RightH H) (hn : s.n ≤ 1000) (hm : s.m ≤ 1000) (hk : isObj o.k) :
    Calls Tryz.prog 73 #[hval H s, opv o, .int .i64 (placeI H.obs o.h)] w (InPost w base (doneH H o)) := by
  rw [doneH_obj hk]
  cases hf : findO H.obs o.h with
  | none => rw [placeI_none hf]; exact refObject_none s os H o w base O hb
  | some q =>
    obtain ⟨i, x⟩ := q
    rw [placeI_some hf]
    simp only
    rcases hk with e | e | e | e | e
    · exact refObject_2 s os H o w base O hb hR hn hm e hf
    · exact refObject_3 s os H o w base O hb hR hn hm e hf
    · exact refObject_4 s os H o w base O hb hR hn hm e hf
    · exact refObject_6 s os H o w base O hb hR hn hm e hf
    · exact refObject_7 s os H o w base O hb hR hn hm e hf
end Go.Proofs.YtkbggbgnnllmjaaGreatDoor

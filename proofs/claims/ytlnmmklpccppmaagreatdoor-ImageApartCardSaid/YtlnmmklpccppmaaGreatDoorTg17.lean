/-
  A heap in memory of its own, by the document: contract.
  When a heap is right, by blocks that lie side by side: plain mathematics, no program.
-/
import Derived.Test.YtlnmmklpccppmaaGreatDoorTg16
import Derived.Test.YtlnmmklpccppmaaGreatDoorTg14
namespace Go.Proofs.YtlnmmklpccppmaaGreatDoor
open Go.RowKit
theorem Tryz.infoOb : (Tryz.prog.info? 68).map (fun i => (i.zero, i.size, i.bytes)) = some (some (.agg #[.int .i64 0, .int .i64 0, .int .i64 0, .slice none 0 0, .slice none 0 0]), 5, 72) := by kernel_rfl
theorem Tryz.infoInt : (Tryz.prog.info? 3).map (fun i => (i.zero, i.size, i.bytes)) = some (some (.int .i64 0), 1, 8) := by kernel_rfl
/-- A heap in memory of the call's own. -/
structure OwnHp (w : World) (base : Nat) (s : HSl) (os : List (Ob × OSl)) (H : Hp) : Prop where
  objs : OwnOs 68 3 w base (.slice s.A s.n s.c) os
  obs : H.obs = os.map (·.1)
  free : OwnB 65 w base (.slice s.F s.m s.d) H.fr
  tp : H.tp.length = 4
  nx : H.nx ≤ 9223372036854775807
theorem OwnHp.rd {w : World} {base : Nat} {s : HSl} {os : List (Ob × OSl)} {H : Hp} (h : OwnHp w base s os H) : RdH w s H := by
  obtain ⟨A, c, hv, hr⟩ := h.objs.rd
  obtain ⟨F, d, hf, hfr⟩ := h.free.rd
  injection hv with e1 e2 e3
  injection hf with f1 f2 f3
  exact ⟨by rw [e1, e2, h.obs]; exact hr, by rw [f1, f2]; exact hfr, h.tp, h.nx⟩
theorem OwnHp.below {w w' : World} {base : Nat} {s : HSl} {os : List (Ob × OSl)} {H : Hp} (h : OwnHp w base s os H) (b : Below w.heap.size w w') : OwnHp w' base s os H := ⟨h.objs.below b, h.obs, h.free.below b, h.tp, h.nx⟩
theorem OwnHp.mono {w : World} {base base' : Nat} {s : HSl} {os : List (Ob × OSl)} {H : Hp} (h : OwnHp w base s os H) (b : base' ≤ base) : OwnHp w base' s os H := ⟨h.objs.mono b, h.obs, h.free.mono b, h.tp, h.nx⟩
def OwnsPost (w : World) (H : Hp) (e : Ending) (w' : World) : Prop := ∃ s os, e = .returned (hval H s) ∧ OwnHp w' w.heap.size s os H ∧ Below w.heap.size w w'
def zcs : List Value := [.int .i64 0, .slice none 0 0, .int .i64 0, .int .i64 0, .int .i64 0, .int .i64 0, .int .i64 0, .slice none 0 0]
/-- Memory between the rounds of Own: the argument's box, the result's, the row so far. -/
structure CpMem (w : World) (cs : List Value) (v : Value) (os : List (Ob × OSl)) (W : World) : Prop where
  own : OwnOs 68 3 W (w.heap.size + 2) v os
  kh : Whole W w.heap.size 26 cs
  kr : Whole W (w.heap.size + 1) 26 zcs
  bel : Below w.heap.size w W
theorem CpMem.below {w W W' : World} {cs : List Value} {v : Value} {os : List (Ob × OSl)} (h : CpMem w cs v os W) (b : Below W.heap.size W W') : CpMem w cs v os W' :=
  ⟨h.own.below b, h.kh.below b, h.kr.below b, h.bel.trans (b.mono h.bel.size)⟩
/-- Within a round: the object's box, a block of its own. -/
structure CbMem (w : World) (cs : List Value) (v : Value) (os : List (Ob × OSl)) (bx : Nat) (xs : List Value) (W : World) : Prop where
  cp : CpMem w cs v os W
  bx_ : Whole W bx 68 xs
  hi : w.heap.size + 2 ≤ bx
  row : ∀ k, v.ownBlock = some k → k < bx
  rows : ∀ k ∈ blocksOf os, k < bx
theorem CbMem.below {w W W' : World} {cs xs : List Value} {v : Value} {os : List (Ob × OSl)} {bx : Nat} (h : CbMem w cs v os bx xs W) (b : Below W.heap.size W W') : CbMem w cs v os bx xs W' :=
  ⟨h.cp.below b, h.bx_.below b, h.hi, h.row, h.rows⟩
theorem CbMem.set {w W : World} {cs xs : List Value} {v : Value} {os : List (Ob × OSl)} {bx : Nat} (h : CbMem w cs v os bx xs W) (j : Nat) (u : Value) : CbMem w cs v os bx (xs.set j u) (W.setCell ⟨bx, j, none⟩ u) := by
  have hg := grown_set W bx j u
  have hb := h.hi
  refine ⟨⟨h.cp.own.grown hg (fun k hk e => ?_) (fun k hk e => ?_), h.cp.kh.grown hg (by omega), h.cp.kr.grown hg (by omega), below_grown h.cp.bel hg h.cp.bel.size (by omega)⟩, h.bx_.set j u, h.hi, h.row, h.rows⟩
  · injection e with e; have := h.row k hk; omega
  · injection e with e; have := h.rows k hk; omega
def CpRel (w : World) (H : Hp) (cs : List Value) (v i : Value) (wr : World) : Prop :=
  ∃ (k : Nat) (os : List (Ob × OSl)), k ≤ H.obs.length ∧ i = .int .i64 (k : Int) ∧ os.map (·.1) = H.obs.take k ∧ CpMem w cs v os wr
theorem grown_set8 (w : World) (g : Nat) (a0 a1 a2 a3 a4 a5 a6 a7 : Value) : w.grownBy ((((((((w.setCell ⟨g, 0, none⟩ a0).setCell ⟨g, 1, none⟩ a1).setCell ⟨g, 2, none⟩ a2).setCell ⟨g, 3, none⟩ a3).setCell ⟨g, 4, none⟩ a4).setCell ⟨g, 5, none⟩ a5).setCell ⟨g, 6, none⟩ a6).setCell ⟨g, 7, none⟩ a7) (some g) :=
  grown_trans (grown_trans (grown_trans (grown_trans (grown_trans (grown_trans (grown_trans (grown_set _ g 0 a0) (grown_set _ g 1 a1)) (grown_set _ g 2 a2)) (grown_set _ g 3 a3)) (grown_set _ g 4 a4)) (grown_set _ g 5 a5)) (grown_set _ g 6 a6)) (grown_set _ g 7 a7)
theorem nodup_two {a b : Option Nat} (h : ∀ i j, a = some i → b = some j → i ≠ j) : (a.toList ++ b.toList).Nodup := by
  cases a <;> cases b <;> simp
  exact h _ _ rfl rfl
theorem below_none {w w' : World} (h : w.grownBy w' none) : Below w.heap.size w w' := (Below.refl _ _).grown h (Nat.le_refl _) fun k hk => by cases hk
set_option maxRecDepth 100000 in
set_option maxHeartbeats 4000000 in
theorem refOwnH_any (s : HSl) (H : Hp) (w : World) (h : RdH w s H) (hS : SmallH H) :
    Calls Tryz.prog 10 #[hval H s] w (OwnsPost w H) := by
  have b1 := (Below.refl w.heap.size w).alloc (Nat.le_refl _) (.cells (hcs H s).toArray 26)
  have hz0 : (w.alloc (.cells (hcs H s).toArray 26)).heap.size = w.heap.size + 1 := by simp
  have b2 := (Below.refl _ (w.alloc (.cells (hcs H s).toArray 26))).alloc (Nat.le_refl _) (.cells zcs.toArray 26)
  have M0 : CpMem w (hcs H s) (.slice none 0 0) [] ((w.alloc (.cells (hcs H s).toArray 26)).alloc (.cells zcs.toArray 26)) :=
    ⟨OwnOs.nil, (Whole.new w (hcs H s).toArray 26).alloc _, by have := Whole.new (w.alloc (.cells (hcs H s).toArray 26)) zcs.toArray 26; rw [hz0] at this; exact this, b1.trans (b2.mono b1.size)⟩
  have HM0 := Lib.hid M0
  have HO := Lib.hid h.obs
  have HFr := Lib.hid h.fr
  have hlen := Lib.hid h.obs.len
  have hfl := Lib.hid h.fr.len
  have HS := Lib.hid hS
  have H4 := Lib.hid h.tp
  have Hnx := Lib.hid h.nx
  have hn6 : s.n ≤ 600 := by have := hS.1; rw [← h.obs.len]; exact this
  have hm6 : s.m ≤ 600 := by have := hS.2.1; rw [← h.fr.len]; exact this
  obtain ⟨A, n, c, F, m, d⟩ := s
  clear h hS hz0 b1 b2 M0
  simp only [hval, hcs, zcs] at *
  go_enter Tryz.func10, Tryz.ntmps10
  go_upto_region 3 with (fail)
  go_loopw [3, 4] (CpRel w H [.int .i64 H.od, .slice A n c, .int .i64 H.nx, .int .i64 (tget H 0), .int .i64 (tget H 1), .int .i64 (tget H 2), .int .i64 (tget H 3), .slice F m d]) (fun _ i _ => n - (intOf i).toNat)
  case atStart => exact ⟨0, [], Nat.zero_le _, rfl, rfl, HM0.out⟩
  case round =>
    clear HM0
    obtain ⟨k, os, hk, rfl, hos, M⟩ := hrel
    have hkn : k ≤ n := by have := hlen.out; omega
    have c1 := M.kh.cell 1
    simp only [List.getElem?_cons_succ, List.getElem?_cons_zero] at c1
    by_cases hlt : k < n
    · obtain ⟨b', off, x, rfl, hbl, hx, A1, n1, f1, B1, m1, d1, h0, h1, h2, h3, h4, r5, r6⟩ := HO.out.get hlt
      have z0 := (M.bel.cell (p := ⟨b', off + k * 5, none⟩) hbl).trans h0
      have z1 := (M.bel.cell (p := ⟨b', off + k * 5 + 1, none⟩) hbl).trans h1
      have z2 := (M.bel.cell (p := ⟨b', off + k * 5 + 2, none⟩) hbl).trans h2
      have z3 := (M.bel.cell (p := ⟨b', off + k * 5 + 3, none⟩) hbl).trans h3
      have z4 := (M.bel.cell (p := ⟨b', off + k * 5 + 4, none⟩) hbl).trans h4
      have hki : (k : Int) < (n : Int) := by omega
      have hbd := HS.out.2.2 x (List.mem_of_getElem? hx)
      have R5 := Lib.hid r5
      have R6 := Lib.hid r6
      have Hx := Lib.hid hx
      have Hos := Lib.hid hos
      clear h0 h1 h2 h3 h4 r5 r6 hx hos hbl
      go_upto_region 6 with (fail)
      have hsz : w.heap.size + 2 ≤ wr.heap.size := by have := M.kr.lt; omega
      have ba := (Below.refl wr.heap.size wr).alloc (Nat.le_refl _) (.cells #[.int .i64 x.hd, .int .i64 x.bl.1, .int .i64 x.bl.2, .slice A1 n1 f1, .slice B1 m1 d1] 68)
      have Kx := Whole.new wr #[.int .i64 x.hd, .int .i64 x.bl.1, .int .i64 x.bl.2, .slice A1 n1 f1, .slice B1 m1 d1] 68
      have C1 := Lib.hid (show CbMem w _ _ os wr.heap.size _ _ from ⟨M.below ba, Kx, hsz, fun k hk => (M.own.row_lt k hk).2, fun k hk => (M.own.lt k hk).2⟩)
      have hb1 : wr.heap.size < (wr.alloc (.cells #[.int .i64 x.hd, .int .i64 x.bl.1, .int .i64 x.bl.2, .slice A1 n1 f1, .slice B1 m1 d1] 68)).heap.size := by simp
      obtain ⟨bx, hbx⟩ : ∃ bx, bx = wr.heap.size := ⟨_, rfl⟩
      rw [← hbx] at C1 hb1 ⊢
      have Hlt := Lib.hid (show ∀ k, (k ∈ blocksOf os → k < bx) from fun k hk => by rw [hbx]; exact (M.own.lt k hk).2)
      clear Kx ba hsz c1 z0 z1 z2 z3 z4 hbx M
      generalize wr.alloc (.cells _ 68) = w1 at C1 hb1 ⊢
      -- the words
      obtain ⟨vW, w2, hap1, oW, gW, _⟩ := run_appI (P := Tryz.prog) w1.heap.size 66 66 3 Tryz.underlying66 Tryz.infoInt rfl (.slice none 0 0) [] OwnV.nil A1 n1 f1 x.ws (R5.out.below C1.out.cp.bel) (by have := R5.out.len; simp; omega) (Nat.le_refl _)
      have bW := below_none gW
      have C2 := Lib.hid (C1.out.below bW)
      have c3 := C1.out.bx_.cell 3
      simp only [List.getElem?_cons_succ, List.getElem?_cons_zero] at c3
      have hb2 : w1.heap.size ≤ w2.heap.size := bW.size
      rw [List.nil_append] at oW
      obtain ⟨AW, cW, rfl, _, _, _⟩ := oW.shape (n := n1) (by rw [ivs_length]; exact R5.out.len)
      have OW := Lib.hid oW
      have HWlt := Lib.hid (fun k e => OW.out.lt k e)
      have HC1 := Lib.hid (show ∀ k ∈ blocksOf os, k < w1.heap.size from fun k hk => by have := C1.out.rows k hk; omega)
      clear gW bW C1 oW
      go_upto_region 8 with (at_builtin; refine wpList_append_run hap1 rfl _ _ rfl rfl rfl rfl ?_)
      clear c3 hap1
      have c3 := C2.out.bx_.cell 3
      simp only [List.getElem?_cons_succ, List.getElem?_cons_zero] at c3
      have f2 := C2.out.bx_.free 3
      go_upto_region 9 with (fail)
      have hbx2 : bx < w2.heap.size := by omega
      have C3 := Lib.hid (C2.out.set 3 (.slice AW n1 cW))
      have gs := grown_set w2 bx 3 (.slice AW n1 cW)
      have OW3 := Lib.hid (OW.out.grown gs (fun e => by have := (OW.out.lt _ e).1; omega))
      have hsz3 : (w2.setCell ⟨bx, 3, none⟩ (.slice AW n1 cW)).heap.size = w2.heap.size := by simp [World.setCell]
      clear c3 f2 gs C2 OW
      generalize w2.setCell ⟨bx, 3, none⟩ (.slice AW n1 cW) = w3 at C3 OW3 hsz3 ⊢
      simp only [List.set_cons_succ, List.set_cons_zero] at C3
      -- the links
      obtain ⟨vL, w4, hap2, oL, gL, _⟩ := run_appI (P := Tryz.prog) w3.heap.size 66 66 3 Tryz.underlying66 Tryz.infoInt rfl (.slice none 0 0) [] OwnV.nil B1 m1 d1 x.ls (R6.out.below C3.out.cp.bel) (by have := R6.out.len; simp; omega) (Nat.le_refl _)
      rw [List.nil_append] at oL
      obtain ⟨AL, cL, rfl, _, _, _⟩ := oL.shape (n := m1) (by rw [ivs_length]; exact R6.out.len)
      have bL := below_none gL
      have C4 := Lib.hid (C3.out.below bL)
      have c4 := C3.out.bx_.cell 4
      simp only [List.getElem?_cons_succ, List.getElem?_cons_zero] at c4
      have OL := Lib.hid oL
      have OW4 := Lib.hid (OW3.out.below bL)
      have hb4 : w3.heap.size ≤ w4.heap.size := bL.size
      have HLlt := Lib.hid (fun k e => OL.out.lt k e)
      clear gL bL C3 oL OW3
      go_upto_region 11 with (at_builtin; refine wpList_append_run hap2 rfl _ _ rfl rfl rfl rfl ?_)
      clear c4 hap2
      have c4 := C4.out.bx_.cell 4
      simp only [List.getElem?_cons_succ, List.getElem?_cons_zero] at c4
      have f4 := C4.out.bx_.free 4
      go_upto_region 12 with (fail)
      have C5 := Lib.hid (C4.out.set 4 (.slice AL m1 cL))
      have gs := grown_set w4 bx 4 (.slice AL m1 cL)
      have OW5 := Lib.hid (OW4.out.grown gs (fun e => by have := (OW4.out.lt _ e).1; omega))
      have OL5 := Lib.hid (OL.out.grown gs (fun e => by have := (OL.out.lt _ e).1; omega))
      clear c4 f4 gs C4 OW4
      generalize w4.setCell ⟨bx, 4, none⟩ (.slice AL m1 cL) = w5 at C5 OW5 OL5 ⊢
      simp only [List.set_cons_succ, List.set_cons_zero] at C5
      have k0 := C5.out.bx_.cell 0
      have k1 := C5.out.bx_.cell 1
      have k2 := C5.out.bx_.cell 2
      have k3 := C5.out.bx_.cell 3
      have k4 := C5.out.bx_.cell 4
      simp only [List.getElem?_cons_succ, List.getElem?_cons_zero] at k0 k1 k2 k3 k4
      have hol : os.length = k := by have := congrArg List.length Hos.out; rw [List.length_map, List.length_take] at this; have := hlen.out; omega
      have hhi := C5.out.hi
      have hbs : w.heap.size + 2 ≤ w5.heap.size := by have := C5.out.cp.kr.lt; omega
      obtain ⟨v6, w6, hap3, hrow, hgr, _⟩ := run_appO (P := Tryz.prog) 22 22 Tryz.underlying22 Tryz.infoOb rfl C5.out.cp.own.row (x, ⟨.slice AW n1 cW, .slice AL m1 cL⟩) rfl rfl (by omega) hbs
      have hown6 := C5.out.cp.own.snoc (by decide) (p := (x, ⟨.slice AW n1 cW, .slice AL m1 cL⟩)) (OW5.out.mono (by omega)) (OL5.out.mono (by omega))
        (nodup_two fun i j e1 e2 => by have := (HWlt.out i e1).2; have := (HLlt.out j e2).1; omega)
        (fun q hq hb => by
          have h1 := HC1.out q hb
          rcases mem_two.1 hq with e | e
          · have := (HWlt.out q e).1; omega
          · have := (HLlt.out q e).1; omega) hrow hgr
      have hne : ∀ q, q < w.heap.size + 2 → some q ≠ u3.ownBlock := fun q hq e => by have := (C5.out.cp.own.row_lt q e.symm).1; omega
      have M6 := Lib.hid (show CpMem w _ v6 (os ++ [(x, ⟨.slice AW n1 cW, .slice AL m1 cL⟩)]) w6 from
        ⟨hown6, C5.out.cp.kh.keep (hgr.block _ C5.out.cp.kh.lt (hne _ (by omega))), C5.out.cp.kr.keep (hgr.block _ C5.out.cp.kr.lt (hne _ (by omega))), C5.out.cp.bel.grown hgr C5.out.cp.bel.size fun q hq => by have := (C5.out.cp.own.row_lt q hq).1; omega⟩)
      simp only at hap3
      clear hrow hgr hown6 hne C5 OW5 OL5 hol
      go_wp2_with (at_builtin; refine wpList_append_run hap3 rfl _ _ rfl rfl rfl rfl ?_)
      go_roundw
      case rel => exact ⟨k + 1, _, by have := hlen.out; omega, by go_num, by rw [List.map_append, Hos.out, take_snocI Hx.out]; rfl, M6.out⟩
      case measure => simp [intOf]; omega
    · obtain rfl : k = n := by omega
      rw [List.take_of_length_le (by have := hlen.out; omega)] at hos
      obtain ⟨A3, c3, rfl, _⟩ := M.own.rd
      have f1 := M.kh.free 1
      have Hos := Lib.hid hos
      have HM := Lib.hid M
      clear hos M
      go_upto_region 14 with (fail)
      have K1 := HM.out.kh.set 1 (.slice A3 os.length c3)
      have gs := grown_set wr w.heap.size 1 (.slice A3 os.length c3)
      have hne : ∀ q, q < w.heap.size + 2 → some q ≠ (Value.slice A3 os.length c3).ownBlock := fun q hq e => by have := (HM.out.own.row_lt q e.symm).1; omega
      have O1 := HM.out.own.grown gs (fun q hq e => by injection e with e; have := (HM.out.own.row_lt q hq).1; omega) (fun q hq e => by injection e with e; have := (HM.out.own.lt q hq).1; omega)
      have R1 := HM.out.kr.grown gs (by omega)
      have B1 := below_grown HM.out.bel gs HM.out.bel.size (Nat.le_refl _)
      have hszz : (wr.setCell ⟨w.heap.size, 1, none⟩ (.slice A3 os.length c3)).heap.size = wr.heap.size := by simp [World.setCell]
      have HK1 := Lib.hid K1
      have HO1 := Lib.hid O1
      have HR1 := Lib.hid R1
      have HB1 := Lib.hid B1
      clear c1 f1 gs hne K1 O1 R1 B1
      generalize wr.setCell ⟨w.heap.size, 1, none⟩ (.slice A3 os.length c3) = w2 at HK1 HO1 HR1 HB1 hszz ⊢
      simp only [List.set_cons_succ, List.set_cons_zero] at HK1
      have c7 := HK1.out.cell 7
      simp only [List.getElem?_cons_succ, List.getElem?_cons_zero] at c7
      have S := refOwn_any F m d H.fr w2 (HFr.out.below HB1.out) (by omega)
      go_upto_region 15 with (go_at_call 34; refine S.mono ?_; rintro e w4 ⟨v4, rfl, o4, b4⟩; obtain ⟨F4, d4, rfl, _⟩ := o4.rdn (n := m) hfl.out; have k7 := (HK1.out.below b4).cell 7; have f7 := (HK1.out.below b4).free 7; simp only [List.getElem?_cons_succ, List.getElem?_cons_zero] at k7)
      have hkr2 := HR1.out.lt
      have gs := grown_set w4 w.heap.size 7 (.slice F4 m d4)
      have K5 := Lib.hid ((HK1.out.below b4).set 7 (.slice F4 m d4))
      have O5 := Lib.hid ((HO1.out.below b4).grown gs (fun q hq e => by injection e with e; have := (HO1.out.row_lt q hq).1; omega) (fun q hq e => by injection e with e; have := (HO1.out.lt q hq).1; omega))
      have R5 := Lib.hid ((HR1.out.below b4).grown gs (by omega))
      have B4 := HB1.out.trans (b4.mono HB1.out.size)
      have B5 := Lib.hid (below_grown B4 gs B4.size (Nat.le_refl _))
      have F5 := Lib.hid ((o4.mono (base' := w.heap.size + 2) (by omega)).grown gs (fun q hq e => by injection e with e; have := (o4.lt q hq).1; omega))
      clear k7 f7 c7 S gs b4 o4 B4 HK1 HO1 HR1 HB1
      generalize w4.setCell ⟨w.heap.size, 7, none⟩ (.slice F4 m d4) = w5 at K5 O5 R5 B5 F5 ⊢
      simp only [List.set_cons_succ, List.set_cons_zero] at K5
      have k0 := K5.out.cell 0
      have k1 := K5.out.cell 1
      have k2 := K5.out.cell 2
      have k3 := K5.out.cell 3
      have k4 := K5.out.cell 4
      have k5 := K5.out.cell 5
      have k6 := K5.out.cell 6
      have k7 := K5.out.cell 7
      simp only [List.getElem?_cons_succ, List.getElem?_cons_zero] at k0 k1 k2 k3 k4 k5 k6 k7
      have r0 := R5.out.cell 0
      have r1 := R5.out.cell 1
      have r2 := R5.out.cell 2
      have r3 := R5.out.cell 3
      have r4 := R5.out.cell 4
      have r5 := R5.out.cell 5
      have r6 := R5.out.cell 6
      have r7 := R5.out.cell 7
      simp only [zcs, List.getElem?_cons_succ, List.getElem?_cons_zero] at r0 r1 r2 r3 r4 r5 r6 r7
      have fr := R5.out.free
      have W1 := Lib.hid ((((((((R5.out.set 0 (.int .i64 H.od)).set 1 (.slice A3 os.length c3)).set 2 (.int .i64 H.nx)).set 3 (.int .i64 (tget H 0))).set 4 (.int .i64 (tget H 1))).set 5 (.int .i64 (tget H 2))).set 6 (.int .i64 (tget H 3))).set 7 (.slice F4 m d4))
      have G8 := Lib.hid (grown_set8 w5 (w.heap.size + 1) (.int .i64 H.od) (.slice A3 os.length c3) (.int .i64 H.nx) (.int .i64 (tget H 0)) (.int .i64 (tget H 1)) (.int .i64 (tget H 2)) (.int .i64 (tget H 3)) (.slice F4 m d4))
      go_wp2
      refine bodyPost_ret (results_cell_row rfl _ _ (w.heap.size + 1) 26 _ (0, 0) _ rfl W1.out Tryz.underlying26 rfl (by kernel_rfl)) rfl ?_
      exact ⟨⟨A3, os.length, c3, F4, m, d4⟩, os, rfl, ⟨(O5.out.grown G8.out (fun q hq e => by injection e with e; have := (O5.out.row_lt q hq).1; omega) (fun q hq e => by injection e with e; have := (O5.out.lt q hq).1; omega)).mono (by omega), Hos.out.symm,
        (F5.out.grown G8.out (fun q hq e => by injection e with e; have := (F5.out.lt q hq).1; omega)).mono (by omega), H4.out, Hnx.out⟩, below_grown B5.out G8.out B5.out.size (by omega)⟩
end Go.Proofs.YtlnmmklpccppmaaGreatDoor
namespace Go.Proofs.YtlnmmklpccppmaaGreatDoor
open Go.RowKit
/-- Each block begins where the one ahead of it ends. -/
def contig : Int → List Blk → Prop
  | _, [] => True
  | s, b :: t => b.1 = s ∧ contig (s + sz b.2) t
theorem contig_append : ∀ {l m : List Blk} {s : Int}, contig s (l ++ m) ↔ contig s l ∧ contig (s + sumL l) m
  | [], m, s => by simp [contig, sumL]
  | b :: t, m, s => by
    show (b.1 = s ∧ contig (s + sz b.2) (t ++ m)) ↔ (b.1 = s ∧ contig (s + sz b.2) t) ∧ contig (s + sumL (b :: t)) m
    rw [contig_append (l := t), sumL_cons, and_assoc, Int.add_assoc]
theorem contig_one {s : Int} {b : Blk} : contig s [b] ↔ b.1 = s := by simp [contig]
theorem contig_in : ∀ {m : List Blk} {s : Int}, contig s m → ∀ b ∈ m, s ≤ b.1 ∧ b.1 + sz b.2 ≤ s + sumL m
  | [], _, _, b, hb => by cases hb
  | c :: t, s, h, b, hb => by
    obtain ⟨h1, h2⟩ := h
    have hp := sz_pos c.2
    have h0 : 0 ≤ sumL t := by have := sumL_ge t; omega
    rw [sumL_cons]
    rcases List.mem_cons.1 hb with e | e
    · subst e; omega
    · have := contig_in h2 b e
      omega
theorem contig_apart : ∀ {m : List Blk} {s : Int}, contig s m → m.Pairwise (fun a b => ¬ Meets b a)
  | [], _, _ => List.Pairwise.nil
  | c :: t, s, h => by
    obtain ⟨h1, h2⟩ := h
    rw [List.pairwise_cons]
    refine ⟨fun b hb hm => ?_, contig_apart h2⟩
    have := contig_in h2 b hb
    have := hm.1
    omega
/-- Blocks that rise, none on another one, of as many words as there is room for, lie side by side. -/
theorem contig_of : ∀ {m : List Blk} {s R : Int}, m.Pairwise (fun a b => a.1 ≤ b.1) → m.Pairwise (fun a b => ¬ Meets b a) → (∀ b ∈ m, s ≤ b.1 ∧ b.1 + sz b.2 ≤ R) → sumL m ≤ max 0 (R - s) ∧ (s + sumL m = R → contig s m)
  | [], s, R, _, _, _ => ⟨by simp [sumL]; omega, fun _ => trivial⟩
  | c :: t, s, R, h1, h2, h3 => by
    rw [List.pairwise_cons] at h1 h2
    have hp := sz_pos c.2
    have hc := h3 c (List.mem_cons_self ..)
    obtain ⟨i1, i2⟩ := contig_of (s := c.1 + sz c.2) (R := R) h1.2 h2.2 (fun b hb => ⟨by
      have q1 := h1.1 b hb
      have q2 := h2.1 b hb
      have hpb := sz_pos b.2
      unfold Meets at q2
      omega, (h3 b (List.mem_cons_of_mem _ hb)).2⟩)
    rw [sumL_cons]
    refine ⟨by omega, fun e => ?_⟩
    have e1 : c.1 = s := by omega
    exact ⟨e1, by rw [← e1]; exact i2 (by omega)⟩
/-- An object has a block of its order at a multiple of its size. -/
def Shp (x : Ob) : Prop := 0 ≤ needI x.ws.length x.ls.length ∧ x.bl.2 = needI x.ws.length x.ls.length ∧ x.bl.1 % sz x.bl.2 = 0
instance (x : Ob) : Decidable (Shp x) := by unfold Shp; infer_instance
/-- The objects rise below the next handle, each with a block of its order. -/
def ObsR (h : Hp) : Prop := (1 ≤ h.nx ∧ h.nx ≤ 1000001) ∧ h.obs.Pairwise (fun a b => a.hd < b.hd) ∧ ∀ x ∈ h.obs, 1 ≤ x.hd ∧ x.hd < h.nx ∧ Shp x
def LinksR (h : Hp) : Prop := (∀ x ∈ h.obs, ∀ t ∈ x.ls, Leads h t) ∧ ∀ t ∈ h.tp, Leads h t
theorem rightH_iff {h : Hp} {m : List Blk} (ho : ObsR h) (hf : Right h.od h.fr) (hp : m.Perm (blks h)) (hs : m.Pairwise (fun a b => a.1 ≤ b.1)) : RightH h ↔ (contig 0 m ∧ sumL m = sz h.od) ∧ LinksR h := by
  have hsum := sumL_perm hp
  constructor
  · intro k
    have hmay : ∀ b ∈ m, May h.od b := fun b hb => by
      have := hp.mem_iff.1 hb
      unfold blks at this
      rcases List.mem_append.1 this with e | e
      · exact hf.may e
      · obtain ⟨x, hx, rfl⟩ := List.mem_map.1 e
        exact (k.ok x hx).2.2.2.1
    have hap : m.Pairwise (fun a b => ¬ Meets b a) := hp.symm.pairwise k.apart (fun q r => q r.symm)
    have hc := contig_of (s := 0) (R := sz h.od) hs hap (fun b hb => by have := (hmay b hb).2.2; omega)
    exact ⟨⟨hc.2 (by rw [hsum, k.sum]; omega), by rw [hsum, k.sum]⟩, fun x hx => (k.ok x hx).2.2.2.2, k.tp⟩
  · rintro ⟨⟨c1, c2⟩, l1, l2⟩
    have hr := hf.1
    refine ⟨hf, ho.1, ho.2.1, fun x hx => ?_, ?_, l2, by rw [← hsum, c2]⟩
    · obtain ⟨a1, a2, a3, a4, a5⟩ := ho.2.2 x hx
      have hb : x.bl ∈ m := hp.mem_iff.2 (by unfold blks; exact List.mem_append_right _ (List.mem_map_of_mem hx))
      have hin := contig_in c1 x.bl hb
      have hn := needI_bd x.ws.length x.ls.length
      have hle := sz_inj (o := x.bl.2) (p := h.od) (by omega) (by omega) (by omega) hr.2 (by omega)
      exact ⟨a1, a2, a4.symm, ⟨by omega, hle, by omega, by omega, a5⟩, l1 x hx⟩
    · exact hp.pairwise (contig_apart c1) (fun q r => q r.symm)
theorem rightH_obs {h : Hp} (k : RightH h) : ObsR h := ⟨k.nx, k.rise, fun x hx => by
  obtain ⟨a1, a2, a3, a4, a5⟩ := k.ok x hx
  exact ⟨a1, a2, by rw [a3]; exact a4.1, a3.symm, a4.2.2.2.2⟩⟩
end Go.Proofs.YtlnmmklpccppmaaGreatDoor

/-
  A state is laid: laid.state, PutState.
  PutState by the program and by the document.
-/
import Derived.Test.YtlnmmklpccppmaaGreatDoorTg49
import Derived.Test.YtlnmmklpccppmaaGreatDoorTg44
import Derived.Test.YtlnmmklpccppmaaGreatDoorTg45
namespace Go.Proofs.YtlnmmklpccppmaaGreatDoor
open Go.RowKit
/-- What is known between the steps of laid.state. -/
structure LT (w w0 : World) (b base : Nat) (v : Value) (p : Nat) (cs : List Value) (cur : List UInt8) (wr : World) (v' : Value) : Prop where
  lays : Lays w b base v cur wr v'
  box : Whole wr p 39 cs
  arg : Below base w0 wr
theorem LT.next {w w0 wr w2 : World} {b base p : Nat} {v v' v2 : Value} {cur more : List UInt8} {cs : List Value} (h : LT w w0 b base v p cs cur wr v') (hb : base ≤ b) (hs : base ≤ wr.heap.size) (k : Lays wr b base v' (cur ++ more) w2 v2) : LT w w0 b base v p cs (cur ++ more) w2 v2 :=
  ⟨h.lays.trans k, k.whole h.lays.laid h.box (by decide) (by decide), h.arg.trans ((k.below h.lays.laid hb hs))⟩
theorem LT.rise {w w0 wr W : World} {b base p : Nat} {v v' : Value} {cur : List UInt8} {cs : List Value} (h : LT w w0 b base v p cs cur wr v') (hs : base ≤ wr.heap.size) (hb : Below wr.heap.size wr W) : LT w w0 b base v p cs cur W v' :=
  ⟨h.lays.trans (Lays.begin h.lays.laid hb), h.box.below hb, h.arg.trans (hb.mono hs)⟩
theorem encR_parts (x : Rw) : encR x = [x.cl, x.sq, x.co].flatMap encN ++ [x.va].flatMap encI := by
  unfold encR
  simp
theorem encS_parts (S : St) : encS S = (be 4 (encH S.hp).length ++ encH S.hp) ++ [(S.rs.length : Int)].flatMap encN ++ S.rs.flatMap encR := by
  unfold encS encRs
  simp [encN]
theorem encR_length (x : Rw) : (encR x).length = 20 := by
  unfold encR
  simp only [List.length_append, encN_length, encI_length]
def LRwRel (w w0 : World) (b base : Nat) (v : Value) (p : Nat) (cs : List Value) (pre : List UInt8) (xs : List Rw) (i : Value) (wr : World) : Prop :=
  ∃ (k : Nat) (v' : Value), k ≤ xs.length ∧ i = .int .i64 (k : Int) ∧ LT w w0 b base v p cs (pre ++ (xs.take k).flatMap encR) wr v'
set_option maxRecDepth 20000 in
set_option maxHeartbeats 4000000 in
theorem laidState_any (s : SSl) (S : St) (w0 : World) (b base : Nat) (v : Value) (w : World) (h0 : RdT w0 s S) (hw : Below base w0 w) (hbe : w0.heap.size ≤ base) (k : ImS S) (hL : Laid w b base v []) (hbb : base ≤ b) (hbase : base ≤ w.heap.size) :
    Calls Tryz.prog 46 #[.pointer (some ⟨b, 0, none⟩), sval S s] w (LaidPost w b base v (encS S)) := by
  have hdR := Lib.hid (fun x hx => k.domR (r := x) hx)
  have hsize := k.hp.size
  have hrl := k.rows.len
  have hKh := Lib.hid k.hp
  have hb1 : Below w.heap.size w (w.alloc (.cells (scs S s).toArray 39)) := (Below.refl _ _).alloc (Nat.le_refl _) _
  have M0 : LT w w0 b base v w.heap.size (scs S s) [] (w.alloc (.cells (scs S s).toArray 39)) v := ⟨Lays.begin hL hb1, Whole.new w _ _, hw.trans (hb1.mono hbase)⟩
  have HM0 := Lib.hid M0
  have Hhp := Lib.hid h0.hp
  have HW := Lib.hid h0.rs
  have hlen := Lib.hid h0.rs.len
  have Henc := Lib.hid (encS_parts S)
  have hsW : (w.alloc (.cells (scs S s).toArray 39)).heap.size = w.heap.size + 1 := by simp
  obtain ⟨⟨A, n, c, F, m, d⟩, R, nr, cr⟩ := s
  obtain ⟨H, l⟩ := S
  clear M0 hb1 h0 k
  simp only [sval, scs, hcs, List.cons_append, List.nil_append] at *
  generalize hX : encS ⟨H, l⟩ = X at *
  clear hX
  go_enter Tryz.func46, Tryz.ntmps46
  go_upto_region 1 with (fail)
  generalize w.alloc (.cells _ 39) = W at HM0 hsW ⊢
  have HsW := Lib.hid (show base ≤ W.heap.size by omega)
  clear hsW
  have hbW := (Below.refl W.heap.size W).alloc (Nat.le_refl _) (.cells #[.slice none 0 0] 71)
  have L1 : Laid (W.alloc (.cells #[.slice none 0 0] 71)) W.heap.size W.heap.size (.slice none 0 0) [] := ⟨Whole.new W _ _, Own.nil⟩
  have R1 := laidHeap_any ⟨A, n, c, F, m, d⟩ H W W.heap.size W.heap.size (.slice none 0 0) [] (W.alloc (.cells #[.slice none 0 0] 71)) (Hhp.out.below (HM0.out.arg.mono hbe)) hbW (Nat.le_refl _) hKh.out L1 (Nat.le_refl _) hbW.size (by simp)
  rw [List.nil_append] at R1
  simp only [hval, hcs] at R1
  obtain ⟨c0, c1, c2, c3, c4, c5, c6, c7, c8⟩ := (HM0.out.box.below hbW).nine
  have HbW := Lib.hid hbW
  have HL1 := Lib.hid L1
  clear L1 hbW
  go_wp2_with fail
  refine R1.mono ?_
  rintro e w1 ⟨v1, rfl, l1⟩
  have bel := Lib.hid (HbW.out.trans (l1.below HL1.out (Nat.le_refl _) HbW.out.size))
  have M1 := Lib.hid (HM0.out.rise HsW.out bel.out)
  obtain ⟨Y, hY⟩ : ∃ Y, Y = encH H := ⟨_, rfl⟩
  rw [← hY] at l1 hsize
  have HY := Lib.hid hY
  obtain ⟨A2, cc, rfl, _, _, r2⟩ := l1.laid.own.shape
  have kc := r2.conv (P := Tryz.prog) cc 71 5 9 Tryz.underlying71 Tryz.underlying5 Tryz.underlying9
  have b0 := l1.laid.box.cell 0
  have hss : (⟨Y.toArray⟩ : ByteArray).size = Y.length := by simp [ByteArray.size]
  have R2 := laidText_any ⟨Y.toArray⟩ b base v [] w1 (by rw [hss]; exact hsize) M1.out.lays.laid (Nat.le_trans hbase M1.out.lays.left.size) (by simp)
  rw [hss] at R2
  simp only [List.nil_append] at R2
  have HYl := Lib.hid hsize
  have hs1 := Lib.hid M1.out.lays.left.size
  clear R1 hY c0 c1 c2 c3 c4 c5 c6 c7 c8 HM0 HbW HL1 r2 l1 hsize
  go_wp2_with fail
  refine R2.mono ?_
  rintro e w2 ⟨v2, rfl, l2⟩
  have M2 := Lib.hid (LT.next (more := be 4 Y.length ++ Y) M1.out hbb (Nat.le_trans hbase hs1.out) (by simpa using l2))
  have hs2 := Lib.hid (Nat.le_trans hs1.out l2.left.size)
  clear R2 l2 M1 kc b0
  have c8 := M2.out.box.nine.2.2.2.2.2.2.2.2
  have hN3 : ∀ x ∈ [(l.length : Int)], IsNum x := fun x hx => by rw [List.mem_singleton.1 hx]; exact ⟨by omega, by omega⟩
  have R3 := numbers_lit [(l.length : Int)] b base v2 _ w2 hN3 M2.out.lays.laid (Nat.le_trans hbase hs2.out) (by simp) (by have := HYl.out; simp [be_length]; omega)
  rw [show (l.length : Int) = (nr : Int) by rw [hlen.out]] at R3
  simp only [intvs, List.map_cons, List.map_nil, List.length_cons, List.length_nil] at R3
  go_wp2_with fail
  refine Calls.mono R3 ?_
  rintro e w3 ⟨v3, rfl, l3⟩
  have M3 := Lib.hid (M2.out.next hbb (Nat.le_trans hbase hs2.out) l3)
  have hs3 := Lib.hid (Nat.le_trans hs2.out l3.left.size)
  clear R3 l3 M2 c8 hN3
  have c8 := M3.out.box.nine.2.2.2.2.2.2.2.2
  obtain ⟨pre, hpre⟩ : ∃ pre, pre = [] ++ (be 4 Y.length ++ Y) ++ [(nr : Int)].flatMap encN := ⟨_, rfl⟩
  rw [← hpre] at M3
  have hpl := Lib.hid (show pre.length ≤ 66000 by rw [hpre]; have := HYl.out; simp [be_length, encN_length]; omega)
  have Hfin := Lib.hid (show X = pre ++ l.flatMap encR from by rw [Henc.out, hpre, ← HY.out, hlen.out]; simp)
  clear hpre Henc
  go_wp2
  go_loopw [23] (LRwRel w w0 b base v w.heap.size [.int .i64 H.od, .slice A n c, .int .i64 H.nx, .int .i64 (tget H 0), .int .i64 (tget H 1), .int .i64 (tget H 2), .int .i64 (tget H 3), .slice F m d, .slice R nr cr] pre l) (fun i _ => nr - (intOf i).toNat)
  case atStart => exact ⟨0, v3, Nat.zero_le _, rfl, by simpa using M3.out⟩
  case round =>
    clear M3 c8
    obtain ⟨j, v', hj, rfl, M⟩ := hrel
    have HM := Lib.hid M
    have hsr := Lib.hid (Nat.le_trans hbase M.lays.left.size)
    clear M
    by_cases hlt : j < nr
    · have hji : (j : Int) < (nr : Int) := by omega
      obtain ⟨b', off, x, rfl, hbl, hx, x0, x1, x2, x3⟩ := HW.out.get hlt
      have hbb' : b' < base := by omega
      have y0 := (HM.out.arg.cell (p := ⟨b', off + j * 4, none⟩) hbb').trans x0
      have y1 := (HM.out.arg.cell (p := ⟨b', off + j * 4 + 1, none⟩) hbb').trans x1
      have y2 := (HM.out.arg.cell (p := ⟨b', off + j * 4 + 2, none⟩) hbb').trans x2
      have y3 := (HM.out.arg.cell (p := ⟨b', off + j * 4 + 3, none⟩) hbb').trans x3
      have hD := Lib.hid (hdR.out x (List.mem_of_getElem? hx))
      have hbd := Lib.hid (show (pre ++ (l.take j).flatMap encR).length ≤ 66200 by
        have := flat_len encR_length (l.take j)
        rw [List.length_append, this, List.length_take]
        have := hpl.out
        omega)
      have Htk := Lib.hid (take_flat encR hx)
      have KX := Whole.new wr #[.int .i64 x.cl, .int .i64 x.sq, .int .i64 x.co, .int .i64 x.va] 88
      have MX := HM.out.rise hsr.out ((Below.refl wr.heap.size wr).alloc (Nat.le_refl _) (.cells #[.int .i64 x.cl, .int .i64 x.sq, .int .i64 x.co, .int .i64 x.va] 88))
      have hsX : (wr.alloc (.cells #[.int .i64 x.cl, .int .i64 x.sq, .int .i64 x.co, .int .i64 x.va] 88)).heap.size = wr.heap.size + 1 := by simp
      have hN4 : ∀ y ∈ [x.cl, x.sq, x.co], IsNum y := by
        intro y hy
        obtain ⟨d1, d2, d3, d4⟩ := hD.out
        simp only [List.mem_cons, List.not_mem_nil, or_false] at hy
        rcases hy with rfl | rfl | rfl
        · exact d1
        · exact d2
        · exact d3
      clear hx x0 x1 x2 x3 hbb'
      go_wp2_with fail
      generalize wr.alloc (.cells #[.int .i64 x.cl, .int .i64 x.sq, .int .i64 x.co, .int .i64 x.va] 88) = W5 at KX MX hsX ⊢
      have R5 := numbers_lit _ b base v' _ W5 hN4 MX.lays.laid (by have := hsr.out; omega) (by simp) (by have := hbd.out; omega)
      rw [hsX] at R5
      simp only [intvs, List.map_cons, List.map_nil, List.length_cons, List.length_nil] at R5
      refine Calls.mono R5 ?_
      rintro e w6 ⟨v6, rfl, l6⟩
      have M6 := Lib.hid (LT.next (more := [x.cl, x.sq, x.co].flatMap encN) MX hbb (by have := hsr.out; omega) l6)
      have K6 := l6.whole MX.lays.laid KX (by decide) (by decide)
      have hs6 := Lib.hid (show base ≤ w6.heap.size by have := hsr.out; have := l6.left.size; omega)
      have k3 := K6.cell 3
      have R6 := ints_lit [x.va] b base v6 _ w6 M6.out.lays.laid hs6.out (by simp) (by have := hbd.out; rw [List.length_append, flat_len encN_length]; simp only [List.length_cons, List.length_nil]; omega)
      simp only [intvs, List.map_cons, List.map_nil, List.length_cons, List.length_nil] at R6
      clear R5 l6 MX KX hsX
      go_wp2_with fail
      refine Calls.mono R6 ?_
      rintro e w7 ⟨v7, rfl, l7⟩
      have M7 := Lib.hid (M6.out.next hbb hs6.out l7)
      clear l7 M6 K6 k3 R6
      go_wp2
      go_roundw
      case rel =>
        refine ⟨j + 1, v7, by have := hlen.out; omega, by go_num, ?_⟩
        have := M7.out
        rw [Htk.out, encR_parts]
        simpa [List.append_assoc] using this
      case measure => simp [intOf]; omega
    · obtain rfl : j = nr := by have := hlen.out; omega
      have hf := HM.out.lays
      rw [List.take_of_length_le (by have := hlen.out; omega), ← Hfin.out] at hf
      have Hf := Lib.hid hf
      clear hf
      go_wp2
      first | go_end0 | refine bodyPost_ret (results_none rfl _ _ _) rfl ?_
      exact ⟨v', rfl, Hf.out⟩
end Go.Proofs.YtlnmmklpccppmaaGreatDoor
namespace Go.Proofs.YtlnmmklpccppmaaGreatDoor
open Go.RowKit
def PutSP (w : World) (S : St) (e : Ending) (w' : World) : Prop :=
  Below w.heap.size w w' ∧ ((RightS S ∧ ∃ v, e = .returned (.tuple #[v, .int .i64 0]) ∧ Own 5 w' w.heap.size v (encS S)) ∨ (¬ RightS S ∧ e = .returned (.tuple #[.slice none 0 0, .int .i64 60])))
theorem chkS_yes {S : St} (h : RightS S) : chkS S = 0 := if_pos h
theorem chkS_no {S : St} (h : ¬ RightS S) : chkS S = 60 := if_neg h
set_option maxRecDepth 20000 in
set_option maxHeartbeats 4000000 in
theorem putState_any (s : SSl) (S : St) (w : World) (h : RdT w s S) (hS : SmallS S) (hT : Tab w) (hI : IntsS S) :
    Calls Tryz.prog 19 #[sval S s] w (PutSP w S) := by
  have B0 := (Below.refl w.heap.size w).alloc (Nat.le_refl _) (.cells (scs S s).toArray 39)
  have K0 := Whole.new w (scs S s).toArray 39
  have R := checkS_any s S _ (h.below B0) hS (hT.below B0)
  by_cases hR : RightS S
  · rw [chkS_yes hR] at R
    have k : ImS S := ⟨⟨hR.1, h.hp.tp, hI.1⟩, hR.2, hI.2⟩
    have HL := Lib.hid (fun (v : Value) (b : Nat) (W : World) (bW : Below w.heap.size w W) (hb : w.heap.size ≤ b) (L : Laid W b w.heap.size v []) => laidState_any s S w b w.heap.size v W h bW (Nat.le_refl _) k L hb bW.size)
    have Hk := Lib.hid hR
    clear h hS hT hI k hR
    obtain ⟨⟨A, n, c, F, m, d⟩, R', nr, cr⟩ := s
    simp only [sval, scs, hcs, List.cons_append, List.nil_append] at *
    go_enter Tryz.func19, Tryz.ntmps19
    go_wp2_with fail
    generalize w.alloc (.cells _ 39) = W at R B0 K0 ⊢
    refine Calls.mono R ?_
    rintro e w1 ⟨rfl, b1⟩
    have B1 := B0.trans (b1.mono B0.size)
    have K1 := K0.below b1
    have L1 : Laid (w1.alloc (.cells #[.slice none 0 0] 71)) w1.heap.size w.heap.size (.slice none 0 0) [] := ⟨Whole.new w1 _ _, Own.nil⟩
    have B2 := B1.alloc B1.size (.cells #[.slice none 0 0] 71)
    have R2 := HL.out _ _ _ B2 B1.size L1
    obtain ⟨c0, c1, c2, c3, c4, c5, c6, c7, c8⟩ := K1.nine
    have hlt := K1.lt
    have Hs1 := Lib.hid B1.size
    clear R HL
    go_wp2_with fail
    refine Calls.mono R2 ?_
    rintro e w3 ⟨v3, rfl, l3⟩
    obtain ⟨X, hX⟩ : ∃ X, X = encS S := ⟨_, rfl⟩
    rw [← hX] at l3
    have hbel := B2.trans (l3.below L1 Hs1.out B2.size)
    obtain ⟨A2, cc, rfl, _, _, _⟩ := l3.laid.own.shape
    have b0 := l3.laid.box.cell 0
    have Hl := Lib.hid l3
    have HX := Lib.hid hX
    generalize X.length = nX at *
    clear l3 hX L1 R2 c0 c1 c2 c3 c4 c5 c6 c7 c8
    go_wp2
    go_ret2
    exact ⟨hbel, .inl ⟨Hk.out, _, rfl, by rw [← HX.out]; exact Hl.out.laid.own⟩⟩
  · rw [chkS_no hR] at R
    have HR := Lib.hid hR
    clear h hS hT hI hR
    obtain ⟨⟨A, n, c, F, m, d⟩, R', nr, cr⟩ := s
    simp only [sval, scs, hcs, List.cons_append, List.nil_append] at *
    go_enter Tryz.func19, Tryz.ntmps19
    go_wp2_with fail
    generalize w.alloc (.cells _ 39) = W at R B0 K0 ⊢
    refine Calls.mono R ?_
    rintro e w1 ⟨rfl, b1⟩
    have B1 := B0.trans (b1.mono B0.size)
    clear R K0
    go_wp2
    go_ret2
    exact ⟨B1, .inr ⟨HR.out, rfl⟩⟩
/-- Between the steps: bytes so far, and boxes that stay. -/
structure RQ (W : World) (p : Nat) (hc : List Value) (q : Nat) (oc' : List Value) (cur : List UInt8) (v : Value) (wr : World) : Prop where
  own : Own 5 wr W.heap.size v cur
  box : Whole wr p 39 hc
  ob : Whole wr q 88 oc'
  bel : Below W.heap.size W wr
theorem RQ.app {W wr w1 : World} {p q m1 c1 m2 : Nat} {hc oc' : List Value} {cur news : List UInt8} {v : Value} {A1 : Option Addr} (h : RQ W p hc q oc' cur v wr) (hl : cur.length + m1 ≤ 140737488355328) (b1 : Below wr.heap.size wr w1) (hr : Rd w1 A1 m1 news) (h2 : (cur ++ news).length = m2) :
    ∃ A2 c2 w2, (Builtin.append_ #[29, 29] 29 #[v, .slice A1 m1 c1]).run Tryz.prog w1 = .ok (.slice A2 m2 c2) w2 ∧ RQ W p hc q oc' (cur ++ news) (.slice A2 m2 c2) w2 := by
  obtain ⟨A2, c2, w2, hap, o2, b2, g2⟩ := app_step (c1 := c1) h.own h.bel.size hl h.bel b1 hr h2
  have k1 := h.box.below b1
  have k2 := h.ob.below b1
  have o1 := h.own.below b1
  exact ⟨A2, c2, w2, hap, o2, k1.keep (g2.block _ k1.lt (fun e => o1.ownV.apart k1 (by decide) e.symm)), k2.keep (g2.block _ k2.lt (fun e => o1.ownV.apart k2 (by decide) e.symm)), b2⟩
end Go.Proofs.YtlnmmklpccppmaaGreatDoor

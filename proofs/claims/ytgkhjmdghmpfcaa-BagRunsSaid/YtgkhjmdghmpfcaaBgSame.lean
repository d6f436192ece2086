/-
  Two messages are the same, or are not, by the program and by the document: contracts.
-/
import Derived.Test.YtgkhjmdghmpfcaaBgEq
import Derived.Test.YtgkhjmdghmpfcaaBgArm
import Derived.Test.YtgkhjmdghmpfcaaCmp
import Derived.Shelf.Abstract
import Derived.Deep.DeepCutAuto
import Derived.Deep.CutBlock
namespace Go.Proofs.Ytgkhjmdghmpfcaa
open Go.RowKit

theorem ba_toList_beq (a b : ByteArray) : (a.toList == b.toList) = decide (a = b) := by
  rw [Bool.eq_iff_iff, beq_iff_eq, decide_eq_true_iff]
  refine ⟨fun h => ?_, fun h => by rw [h]⟩
  rw [ByteArray.toList_eq, ByteArray.toList_eq] at h
  exact ByteArray.ext (Array.toList_inj.1 h)
theorem eqr_int (W : World) {T : TypeId} (_u : Try.prog.underlying T = some (.int .i64)) (a b : Int) : EqRun Try.prog T (.int .i64 a) (.int .i64 b) (decide (a = b)) W := fun X Y => by
  go_simp
  rfl
theorem eqr_str (W : World) (a b : ByteArray) : EqRun Try.prog 9 (.string a) (.string b) (decide (a = b)) W := fun X Y => by
  have u := Try.underlying9
  go_simp
  exact ba_toList_beq a b
theorem eqr_bool (W : World) (a b : Bool) : EqRun Try.prog 4 (.bool a) (.bool b) (decide (a = b)) W := fun X Y => by
  have u := Try.underlying4
  go_simp
  rfl
theorem eqr_op (W : World) (a b : Op7) : EqRun Try.prog 43 (.agg (opc a).toArray) (.agg (opc b).toArray) (decide (a = b)) W := fun X Y => by
  have e := run_eql_op7 a b W
  have g : Try.prog.eqGuardType Try.prog.depth 43 = false := by kernel_rfl
  generalize (opc a).toArray = x at e ⊢
  generalize (opc b).toArray = y at e ⊢
  simp [eqGuard, g, e]
theorem eqr_rs (W : World) (x p y q : Int) : EqRun Try.prog 45 (.agg #[.int .i64 x, .int .i64 p]) (.agg #[.int .i64 y, .int .i64 q]) (decide (x = y ∧ p = q)) W := fun X Y => by
  have e := run_eql_rs x p y q W
  have g : Try.prog.eqGuardType Try.prog.depth 45 = false := by kernel_rfl
  generalize #[Value.int .i64 x, .int .i64 p] = x at e ⊢
  generalize #[Value.int .i64 y, .int .i64 q] = y at e ⊢
  simp [eqGuard, g, e]
theorem ld_cell {W : World} {T : TypeId} (a : ∀ w, (isAgg T).run Try.prog w = .ok false w) {b o : Nat} {v : Value} (h : W.cell? ⟨b, o, none⟩ = some v) : (Instr.loadAt T (.pointer (some ⟨b, o, none⟩))).run Try.prog W = .ok v W := by
  go_simp

theorem fa_k (W : World) (b : Nat) : (Instr.fieldAt 47 (.pointer (some ⟨b, 0, none⟩)) 0).run Try.prog W = .ok (.pointer (some ⟨b, 0, none⟩)) W := by
  have u := Try.underlying47
  go_simp
theorem ms_k {W : World} {p : Nat} {a : Ms} {ea : Value} (K : Whole W p 47 (mcs a ea)) : ∃ p1, (Instr.fieldAt 47 (.pointer (some ⟨p, 0, none⟩)) 0).run Try.prog W = .ok p1 W ∧ (Instr.loadAt 39 p1).run Try.prog W = .ok (.int .i64 a.k) W :=
  ⟨_, fa_k W p, ld_cell Try.isAgg39 (K.cell 0)⟩
theorem fa_f (W : World) (b : Nat) : (Instr.fieldAt 47 (.pointer (some ⟨b, 0, none⟩)) 1).run Try.prog W = .ok (.pointer (some ⟨b, 1, none⟩)) W := by
  have u := Try.underlying47
  go_simp
theorem ms_f {W : World} {p : Nat} {a : Ms} {ea : Value} (K : Whole W p 47 (mcs a ea)) : ∃ p1, (Instr.fieldAt 47 (.pointer (some ⟨p, 0, none⟩)) 1).run Try.prog W = .ok p1 W ∧ (Instr.loadAt 3 p1).run Try.prog W = .ok (.int .i64 a.f) W :=
  ⟨_, fa_f W p, ld_cell Try.isAgg3 (K.cell 1)⟩
theorem fa_t (W : World) (b : Nat) : (Instr.fieldAt 47 (.pointer (some ⟨b, 0, none⟩)) 2).run Try.prog W = .ok (.pointer (some ⟨b, 2, none⟩)) W := by
  have u := Try.underlying47
  go_simp
theorem ms_t {W : World} {p : Nat} {a : Ms} {ea : Value} (K : Whole W p 47 (mcs a ea)) : ∃ p1, (Instr.fieldAt 47 (.pointer (some ⟨p, 0, none⟩)) 2).run Try.prog W = .ok p1 W ∧ (Instr.loadAt 3 p1).run Try.prog W = .ok (.int .i64 a.t) W :=
  ⟨_, fa_t W p, ld_cell Try.isAgg3 (K.cell 2)⟩
theorem fa_v (W : World) (b : Nat) : (Instr.fieldAt 47 (.pointer (some ⟨b, 0, none⟩)) 3).run Try.prog W = .ok (.pointer (some ⟨b, 3, none⟩)) W := by
  have u := Try.underlying47
  go_simp
theorem ms_v {W : World} {p : Nat} {a : Ms} {ea : Value} (K : Whole W p 47 (mcs a ea)) : ∃ p1, (Instr.fieldAt 47 (.pointer (some ⟨p, 0, none⟩)) 3).run Try.prog W = .ok p1 W ∧ (Instr.loadAt 3 p1).run Try.prog W = .ok (.int .i64 a.v) W :=
  ⟨_, fa_v W p, ld_cell Try.isAgg3 (K.cell 3)⟩
theorem fa_nm (W : World) (b : Nat) : (Instr.fieldAt 47 (.pointer (some ⟨b, 0, none⟩)) 4).run Try.prog W = .ok (.pointer (some ⟨b, 4, none⟩)) W := by
  have u := Try.underlying47
  go_simp
theorem ms_nm {W : World} {p : Nat} {a : Ms} {ea : Value} (K : Whole W p 47 (mcs a ea)) : ∃ p1, (Instr.fieldAt 47 (.pointer (some ⟨p, 0, none⟩)) 4).run Try.prog W = .ok p1 W ∧ (Instr.loadAt 3 p1).run Try.prog W = .ok (.int .i64 a.nm) W :=
  ⟨_, fa_nm W p, ld_cell Try.isAgg3 (K.cell 4)⟩
theorem fa_n (W : World) (b : Nat) : (Instr.fieldAt 47 (.pointer (some ⟨b, 0, none⟩)) 5).run Try.prog W = .ok (.pointer (some ⟨b, 5, none⟩)) W := by
  have u := Try.underlying47
  go_simp
theorem ms_n {W : World} {p : Nat} {a : Ms} {ea : Value} (K : Whole W p 47 (mcs a ea)) : ∃ p1, (Instr.fieldAt 47 (.pointer (some ⟨p, 0, none⟩)) 5).run Try.prog W = .ok p1 W ∧ (Instr.loadAt 3 p1).run Try.prog W = .ok (.int .i64 a.n) W :=
  ⟨_, fa_n W p, ld_cell Try.isAgg3 (K.cell 5)⟩
theorem fa_b (W : World) (b : Nat) : (Instr.fieldAt 47 (.pointer (some ⟨b, 0, none⟩)) 6).run Try.prog W = .ok (.pointer (some ⟨b, 6, none⟩)) W := by
  have u := Try.underlying47
  go_simp
theorem ms_b {W : World} {p : Nat} {a : Ms} {ea : Value} (K : Whole W p 47 (mcs a ea)) : ∃ p1, (Instr.fieldAt 47 (.pointer (some ⟨p, 0, none⟩)) 6).run Try.prog W = .ok p1 W ∧ (Instr.loadAt 3 p1).run Try.prog W = .ok (.int .i64 a.b) W :=
  ⟨_, fa_b W p, ld_cell Try.isAgg3 (K.cell 6)⟩
theorem fa_c (W : World) (b : Nat) : (Instr.fieldAt 47 (.pointer (some ⟨b, 0, none⟩)) 7).run Try.prog W = .ok (.pointer (some ⟨b, 7, none⟩)) W := by
  have u := Try.underlying47
  go_simp
theorem ms_c {W : World} {p : Nat} {a : Ms} {ea : Value} (K : Whole W p 47 (mcs a ea)) : ∃ p1, (Instr.fieldAt 47 (.pointer (some ⟨p, 0, none⟩)) 7).run Try.prog W = .ok p1 W ∧ (Instr.loadAt 3 p1).run Try.prog W = .ok (.int .i64 a.c) W :=
  ⟨_, fa_c W p, ld_cell Try.isAgg3 (K.cell 7)⟩
theorem fa_es (W : World) (b : Nat) : (Instr.fieldAt 47 (.pointer (some ⟨b, 0, none⟩)) 8).run Try.prog W = .ok (.pointer (some ⟨b, 8, none⟩)) W := by
  have u := Try.underlying47
  go_simp
theorem ms_es {W : World} {p : Nat} {a : Ms} {ea : Value} (K : Whole W p 47 (mcs a ea)) : ∃ p1, (Instr.fieldAt 47 (.pointer (some ⟨p, 0, none⟩)) 8).run Try.prog W = .ok p1 W ∧ (Instr.loadAt 40 p1).run Try.prog W = .ok (ea) W :=
  ⟨_, fa_es W p, ld_cell Try.isAgg40 (K.cell 8)⟩
theorem fa_o (W : World) (b : Nat) : (Instr.fieldAt 47 (.pointer (some ⟨b, 0, none⟩)) 9).run Try.prog W = .ok (.pointer (some ⟨b, 9, none⟩)) W := by
  have u := Try.underlying47
  go_simp
theorem ms_o {W : World} {p : Nat} {a : Ms} {ea : Value} (K : Whole W p 47 (mcs a ea)) : ∃ p1, (Instr.fieldAt 47 (.pointer (some ⟨p, 0, none⟩)) 9).run Try.prog W = .ok p1 W ∧ (Instr.loadAt 3 p1).run Try.prog W = .ok (.int .i64 a.o) W :=
  ⟨_, fa_o W p, ld_cell Try.isAgg3 (K.cell 9)⟩
theorem fa_w (W : World) (b : Nat) : (Instr.fieldAt 47 (.pointer (some ⟨b, 0, none⟩)) 10).run Try.prog W = .ok (.pointer (some ⟨b, 10, none⟩)) W := by
  have u := Try.underlying47
  go_simp
theorem ms_w {W : World} {p : Nat} {a : Ms} {ea : Value} (K : Whole W p 47 (mcs a ea)) : ∃ p1, (Instr.fieldAt 47 (.pointer (some ⟨p, 0, none⟩)) 10).run Try.prog W = .ok p1 W ∧ (Instr.loadAt 3 p1).run Try.prog W = .ok (.int .i64 a.w) W :=
  ⟨_, fa_w W p, ld_cell Try.isAgg3 (K.cell 10)⟩
theorem fa_d (W : World) (b : Nat) : (Instr.fieldAt 47 (.pointer (some ⟨b, 0, none⟩)) 11).run Try.prog W = .ok (.pointer (some ⟨b, 11, none⟩)) W := by
  have u := Try.underlying47
  go_simp
theorem ms_d {W : World} {p : Nat} {a : Ms} {ea : Value} (K : Whole W p 47 (mcs a ea)) : ∃ p1, (Instr.fieldAt 47 (.pointer (some ⟨p, 0, none⟩)) 11).run Try.prog W = .ok p1 W ∧ (Instr.loadAt 9 p1).run Try.prog W = .ok (.string a.d) W :=
  ⟨_, fa_d W p, ld_cell Try.isAgg9 (K.cell 11)⟩
theorem fa_s (W : World) (b : Nat) : (Instr.fieldAt 47 (.pointer (some ⟨b, 0, none⟩)) 12).run Try.prog W = .ok (.pointer (some ⟨b, 12, none⟩)) W := by
  have u := Try.underlying47
  go_simp
theorem ms_s {W : World} {p : Nat} {a : Ms} {ea : Value} (K : Whole W p 47 (mcs a ea)) : ∃ p1, (Instr.fieldAt 47 (.pointer (some ⟨p, 0, none⟩)) 12).run Try.prog W = .ok p1 W ∧ (Instr.loadAt 3 p1).run Try.prog W = .ok (.int .i64 a.s) W :=
  ⟨_, fa_s W p, ld_cell Try.isAgg3 (K.cell 12)⟩
theorem fa_op (W : World) (b : Nat) : (Instr.fieldAt 47 (.pointer (some ⟨b, 0, none⟩)) 13).run Try.prog W = .ok (.pointer (some ⟨b, 13, none⟩)) W := by
  have u := Try.underlying47
  go_simp
theorem ms_op {W : World} {p : Nat} {a : Ms} {ea : Value} (K : Whole W p 47 (mcs a ea)) : ∃ p1, (Instr.fieldAt 47 (.pointer (some ⟨p, 0, none⟩)) 13).run Try.prog W = .ok p1 W ∧ (Instr.loadAt 43 p1).run Try.prog W = .ok (.agg (opc a.op).toArray) W :=
  ⟨_, fa_op W p, run_loadAt_mid W p 13 43 [.int .i64 a.op.k, .int .i64 a.op.h, .int .i64 a.op.i, .int .i64 a.op.n, .int .i64 a.op.kk, .int .i64 a.op.v, .int .i64 a.op.t] _ (fun j v hj => by rw [K.cell]; match j, hj with
    | 0, hj => exact hj
    | 1, hj => exact hj
    | 2, hj => exact hj
    | 3, hj => exact hj
    | 4, hj => exact hj
    | 5, hj => exact hj
    | 6, hj => exact hj
    | j + 7, hj => simp at hj) Try.underlying43 rfl (by kernel_rfl)⟩
theorem fa_r (W : World) (b : Nat) : (Instr.fieldAt 47 (.pointer (some ⟨b, 0, none⟩)) 14).run Try.prog W = .ok (.pointer (some ⟨b, 20, none⟩)) W := by
  have u := Try.underlying47
  go_simp
theorem ms_r {W : World} {p : Nat} {a : Ms} {ea : Value} (K : Whole W p 47 (mcs a ea)) : ∃ p1, (Instr.fieldAt 47 (.pointer (some ⟨p, 0, none⟩)) 14).run Try.prog W = .ok p1 W ∧ (Instr.loadAt 45 p1).run Try.prog W = .ok (.agg #[.int .i64 a.rc, .int .i64 a.rv]) W :=
  ⟨_, fa_r W p, run_loadAt_mid W p 20 45 [.int .i64 a.rc, .int .i64 a.rv] _ (fun j v hj => by rw [K.cell]; match j, hj with
    | 0, hj => exact hj
    | 1, hj => exact hj
    | j + 2, hj => simp at hj) Try.underlying45 rfl (by kernel_rfl)⟩
theorem fa_ok (W : World) (b : Nat) : (Instr.fieldAt 47 (.pointer (some ⟨b, 0, none⟩)) 15).run Try.prog W = .ok (.pointer (some ⟨b, 22, none⟩)) W := by
  have u := Try.underlying47
  go_simp
theorem ms_ok {W : World} {p : Nat} {a : Ms} {ea : Value} (K : Whole W p 47 (mcs a ea)) : ∃ p1, (Instr.fieldAt 47 (.pointer (some ⟨p, 0, none⟩)) 15).run Try.prog W = .ok p1 W ∧ (Instr.loadAt 4 p1).run Try.prog W = .ok (.bool a.ok) W :=
  ⟨_, fa_ok W p, ld_cell Try.isAgg4 (K.cell 22)⟩
theorem same_all (a b : Ms) : (((((((((((((((decide (a.k = b.k) && decide (a.f = b.f)) && decide (a.t = b.t)) && decide (a.v = b.v)) && decide (a.nm = b.nm)) && decide (a.n = b.n)) && decide (a.b = b.b)) && decide (a.c = b.c)) && decide (a.es = b.es)) && decide (a.o = b.o)) && decide (a.w = b.w)) && decide (a.d = b.d)) && decide (a.s = b.s)) && decide (a.op = b.op)) && decide (a.rc = b.rc ∧ a.rv = b.rv)) && decide (a.ok = b.ok)) = decide (a = b) := by
  rw [Bool.eq_iff_iff]
  simp only [Bool.and_eq_true, decide_eq_true_iff]
  constructor
  · rintro ⟨⟨⟨⟨⟨⟨⟨⟨⟨⟨⟨⟨⟨⟨⟨h_k, h_f⟩, h_t⟩, h_v⟩, h_nm⟩, h_n⟩, h_b⟩, h_c⟩, h_es⟩, h_o⟩, h_w⟩, h_d⟩, h_s⟩, h_op⟩, ⟨h_rc, h_rv⟩⟩, h_ok⟩
    exact Ms.key_inj (by simp only [Ms.key, h_k, h_f, h_t, h_v, h_nm, h_n, h_b, h_c, h_es, h_o, h_w, h_d, h_s, h_op, h_rc, h_rv, h_ok])
  · rintro rfl
    simp
theorem refSame_all (a b : Ms) : (((((((((((((((decide (a.k = b.k) && decide (a.f = b.f)) && decide (a.t = b.t)) && decide (a.v = b.v)) && decide (a.nm = b.nm)) && decide (a.n = b.n)) && decide (a.b = b.b)) && decide (a.c = b.c)) && decide (a.o = b.o)) && decide (a.w = b.w)) && decide (a.d = b.d)) && decide (a.s = b.s)) && decide (a.op = b.op)) && decide (a.rc = b.rc ∧ a.rv = b.rv)) && decide (a.ok = b.ok)) && decide (a.es = b.es)) = decide (a = b) := by
  rw [Bool.eq_iff_iff]
  simp only [Bool.and_eq_true, decide_eq_true_iff]
  constructor
  · rintro ⟨⟨⟨⟨⟨⟨⟨⟨⟨⟨⟨⟨⟨⟨⟨h_k, h_f⟩, h_t⟩, h_v⟩, h_nm⟩, h_n⟩, h_b⟩, h_c⟩, h_o⟩, h_w⟩, h_d⟩, h_s⟩, h_op⟩, ⟨h_rc, h_rv⟩⟩, h_ok⟩, h_es⟩
    exact Ms.key_inj (by simp only [Ms.key, h_k, h_f, h_t, h_v, h_nm, h_n, h_b, h_c, h_o, h_w, h_d, h_s, h_op, h_rc, h_rv, h_ok, h_es])
  · rintro rfl
    simp
theorem same_pre (a b : Ms) (ea eb : Value) (w : World) : ∃ W1 W2, (Instr.box 47 (mval a ea)).run Try.prog w = .ok (.pointer (some ⟨w.heap.size, 0, none⟩)) W1 ∧ (Instr.box 47 (mval b eb)).run Try.prog W1 = .ok (.pointer (some ⟨w.heap.size + 1, 0, none⟩)) W2 ∧ Whole W2 w.heap.size 47 (mcs a ea) ∧ Whole W2 (w.heap.size + 1) 47 (mcs b eb) ∧ Below w.heap.size w W2 := by
  obtain ⟨W1, h1, n1⟩ := box_new w a ea
  obtain ⟨W2, h2, n2⟩ := box_new W1 b eb
  have k2 := n2.whole
  rw [n1.size] at h2 k2
  have hb : Below W1.heap.size W1 W2 := n2.below
  exact ⟨W1, W2, h1, h2, n1.whole.below hb, k2, n1.below.trans (hb.mono n1.below.size)⟩
set_option maxRecDepth 20000 in
set_option maxHeartbeats 2000000 in
theorem same_any (a b : Ms) (ea eb : Value) (w : World) (ha : MsgR w (a, ea)) (hb : MsgR w (b, eb)) (hs : a.es.length ≤ 1000000) : Calls Try.prog 17 #[mval a ea, mval b eb] w (EqPost w (decide (a = b))) := by
  obtain ⟨W1, W2, x1, x2, KA, KB, hB⟩ := same_pre a b ea eb w
  obtain ⟨A, ca, ea2, ra⟩ := ha
  obtain ⟨B, cb, eb2, rb⟩ := hb
  simp only at ea2 eb2
  have HE := Equal_any (c := ca) (d := cb) (ra.below hB) (rb.below hB) hs
  rw [← ea2, ← eb2] at HE
  have eg : ∀ args w, (callFunc 27 args).run Try.prog w = .ok (.enter 27 args) w := enters_of Try.func27 (by kernel_rfl) rfl
  have HK := Lib.hid (fun (W : World) (h : Below W2.heap.size W2 W) => (KA.below h))
  have HL := Lib.hid (fun (W : World) (h : Below W2.heap.size W2 W) => (KB.below h))
  clear ea2 eb2 ra rb hs
  rw [← same_all]
  go_enter Try.func17, Try.ntmps17
  go_upto_region 1 with (first | (refine wpList_box_run x1 rfl _ rfl rfl ?_) | (refine wpList_box_run x2 rfl _ rfl rfl ?_))
  refine wp_region_list ?_
  refine cmp_first (n := 115) (i := 2) (j := 3) (d := 5) (by exact ⟨rfl, rfl, rfl, rfl⟩) (by exact ⟨ms_k KA, ms_k KB⟩) (by exact eqr_int _ Try.underlying39 _ _) (by decide) (by decide) (by decide) ?_
  intro b0 h0
  refine cmp_more h0 (by rfl) (by exact ⟨ms_f KA, ms_f KB⟩) (by exact eqr_int _ Try.underlying3 _ _) (by decide) (by decide) (by decide) (by decide) ?_
  intro b1 h1
  refine cmp_move h1 (by decide) (by decide) (by decide) ?_
  intro b2 h2
  refine cmp_more h2 (by rfl) (by exact ⟨ms_t KA, ms_t KB⟩) (by exact eqr_int _ Try.underlying3 _ _) (by decide) (by decide) (by decide) (by decide) ?_
  intro b3 h3
  refine cmp_move h3 (by decide) (by decide) (by decide) ?_
  intro b4 h4
  refine cmp_more h4 (by rfl) (by exact ⟨ms_v KA, ms_v KB⟩) (by exact eqr_int _ Try.underlying3 _ _) (by decide) (by decide) (by decide) (by decide) ?_
  intro b5 h5
  refine cmp_move h5 (by decide) (by decide) (by decide) ?_
  intro b6 h6
  refine cmp_more h6 (by rfl) (by exact ⟨ms_nm KA, ms_nm KB⟩) (by exact eqr_int _ Try.underlying3 _ _) (by decide) (by decide) (by decide) (by decide) ?_
  intro b7 h7
  refine cmp_move h7 (by decide) (by decide) (by decide) ?_
  intro b8 h8
  refine cmp_more h8 (by rfl) (by exact ⟨ms_n KA, ms_n KB⟩) (by exact eqr_int _ Try.underlying3 _ _) (by decide) (by decide) (by decide) (by decide) ?_
  intro b9 h9
  refine cmp_move h9 (by decide) (by decide) (by decide) ?_
  intro b10 h10
  refine cmp_more h10 (by rfl) (by exact ⟨ms_b KA, ms_b KB⟩) (by exact eqr_int _ Try.underlying3 _ _) (by decide) (by decide) (by decide) (by decide) ?_
  intro b11 h11
  refine cmp_move h11 (by decide) (by decide) (by decide) ?_
  intro b12 h12
  refine cmp_more h12 (by rfl) (by exact ⟨ms_c KA, ms_c KB⟩) (by exact eqr_int _ Try.underlying3 _ _) (by decide) (by decide) (by decide) (by decide) ?_
  intro b13 h13
  refine cmp_move h13 (by decide) (by decide) (by decide) ?_
  intro b14 h14
  refine cmp_call (R := fun W => Below W2.heap.size W2 W) eg h14 (by rfl) (by exact ⟨ms_es KA, ms_es KB⟩) (by exact fun _ => HE) (by exact fun _ => Below.refl _ _) (by decide) (by decide) (by decide) (by decide) ?_
  intro b15 W3 hW3 h15
  refine cmp_move h15 (by decide) (by decide) (by decide) ?_
  intro b16 h16
  refine cmp_more h16 (by rfl) (by exact ⟨ms_o (HK.out _ hW3), ms_o (HL.out _ hW3)⟩) (by exact eqr_int _ Try.underlying3 _ _) (by decide) (by decide) (by decide) (by decide) ?_
  intro b17 h17
  refine cmp_move h17 (by decide) (by decide) (by decide) ?_
  intro b18 h18
  refine cmp_more h18 (by rfl) (by exact ⟨ms_w (HK.out _ hW3), ms_w (HL.out _ hW3)⟩) (by exact eqr_int _ Try.underlying3 _ _) (by decide) (by decide) (by decide) (by decide) ?_
  intro b19 h19
  refine cmp_move h19 (by decide) (by decide) (by decide) ?_
  intro b20 h20
  refine cmp_more h20 (by rfl) (by exact ⟨ms_d (HK.out _ hW3), ms_d (HL.out _ hW3)⟩) (by exact eqr_str _ _ _) (by decide) (by decide) (by decide) (by decide) ?_
  intro b21 h21
  refine cmp_move h21 (by decide) (by decide) (by decide) ?_
  intro b22 h22
  refine cmp_more h22 (by rfl) (by exact ⟨ms_s (HK.out _ hW3), ms_s (HL.out _ hW3)⟩) (by exact eqr_int _ Try.underlying3 _ _) (by decide) (by decide) (by decide) (by decide) ?_
  intro b23 h23
  refine cmp_move h23 (by decide) (by decide) (by decide) ?_
  intro b24 h24
  refine cmp_more h24 (by rfl) (by exact ⟨ms_op (HK.out _ hW3), ms_op (HL.out _ hW3)⟩) (by exact eqr_op _ _ _) (by decide) (by decide) (by decide) (by decide) ?_
  intro b25 h25
  refine cmp_move h25 (by decide) (by decide) (by decide) ?_
  intro b26 h26
  refine cmp_more h26 (by rfl) (by exact ⟨ms_r (HK.out _ hW3), ms_r (HL.out _ hW3)⟩) (by exact eqr_rs _ _ _ _ _) (by decide) (by decide) (by decide) (by decide) ?_
  intro b27 h27
  refine cmp_move h27 (by decide) (by decide) (by decide) ?_
  intro b28 h28
  refine cmp_more h28 (by rfl) (by exact ⟨ms_ok (HK.out _ hW3), ms_ok (HL.out _ hW3)⟩) (by exact eqr_bool _ _ _) (by decide) (by decide) (by decide) (by decide) ?_
  intro b29 h29
  refine cmp_assign h29 (by decide) (by decide) (by decide) ?_
  intro b30 h30
  refine wpList_nil ?_
  rename_i K hK
  exact hK _ _ (wp_ret (bodyPost_ret (res_tmp rfl h30.r) h30.pre.defers ⟨rfl, hB.trans (hW3.mono hB.size)⟩))
set_option maxRecDepth 20000 in
set_option maxHeartbeats 2000000 in
theorem refSame_any (a b : Ms) (ea eb : Value) (w : World) (ha : MsgR w (a, ea)) (hb : MsgR w (b, eb)) (hs : a.es.length ≤ 1000000) : Calls Try.prog 18 #[mval a ea, mval b eb] w (EqPost w (decide (a = b))) := by
  obtain ⟨W1, W2, x1, x2, KA, KB, hB⟩ := same_pre a b ea eb w
  obtain ⟨A, ca, ea2, ra⟩ := ha
  obtain ⟨B, cb, eb2, rb⟩ := hb
  simp only at ea2 eb2
  have HE := Entries_any (c := ca) (d := cb) (ra.below hB) (rb.below hB) hs
  rw [← ea2, ← eb2] at HE
  have eg : ∀ args w, (callFunc 28 args).run Try.prog w = .ok (.enter 28 args) w := enters_of Try.func28 (by kernel_rfl) rfl
  clear ea2 eb2 ra rb hs
  rw [← refSame_all]
  go_enter Try.func18, Try.ntmps18
  go_upto_region 1 with (first | (refine wpList_box_run x1 rfl _ rfl rfl ?_) | (refine wpList_box_run x2 rfl _ rfl rfl ?_))
  refine wp_region_list ?_
  refine cmp_first (n := 117) (i := 2) (j := 3) (d := 6) (by exact ⟨rfl, rfl, rfl, rfl⟩) (by exact ⟨ms_k KA, ms_k KB⟩) (by exact eqr_int _ Try.underlying39 _ _) (by decide) (by decide) (by decide) ?_
  intro b0 h0
  refine cmp_more h0 (by rfl) (by exact ⟨ms_f KA, ms_f KB⟩) (by exact eqr_int _ Try.underlying3 _ _) (by decide) (by decide) (by decide) (by decide) ?_
  intro b1 h1
  refine cmp_move h1 (by decide) (by decide) (by decide) ?_
  intro b2 h2
  refine cmp_more h2 (by rfl) (by exact ⟨ms_t KA, ms_t KB⟩) (by exact eqr_int _ Try.underlying3 _ _) (by decide) (by decide) (by decide) (by decide) ?_
  intro b3 h3
  refine cmp_move h3 (by decide) (by decide) (by decide) ?_
  intro b4 h4
  refine cmp_more h4 (by rfl) (by exact ⟨ms_v KA, ms_v KB⟩) (by exact eqr_int _ Try.underlying3 _ _) (by decide) (by decide) (by decide) (by decide) ?_
  intro b5 h5
  refine cmp_move h5 (by decide) (by decide) (by decide) ?_
  intro b6 h6
  refine cmp_more h6 (by rfl) (by exact ⟨ms_nm KA, ms_nm KB⟩) (by exact eqr_int _ Try.underlying3 _ _) (by decide) (by decide) (by decide) (by decide) ?_
  intro b7 h7
  refine cmp_move h7 (by decide) (by decide) (by decide) ?_
  intro b8 h8
  refine cmp_more h8 (by rfl) (by exact ⟨ms_n KA, ms_n KB⟩) (by exact eqr_int _ Try.underlying3 _ _) (by decide) (by decide) (by decide) (by decide) ?_
  intro b9 h9
  refine cmp_move h9 (by decide) (by decide) (by decide) ?_
  intro b10 h10
  refine cmp_more h10 (by rfl) (by exact ⟨ms_b KA, ms_b KB⟩) (by exact eqr_int _ Try.underlying3 _ _) (by decide) (by decide) (by decide) (by decide) ?_
  intro b11 h11
  refine cmp_move h11 (by decide) (by decide) (by decide) ?_
  intro b12 h12
  refine cmp_more h12 (by rfl) (by exact ⟨ms_c KA, ms_c KB⟩) (by exact eqr_int _ Try.underlying3 _ _) (by decide) (by decide) (by decide) (by decide) ?_
  intro b13 h13
  refine cmp_assign h13 (by decide) (by decide) (by decide) ?_
  intro b14 h14
  refine wpList_nil ?_
  rename_i K hK
  refine hK _ _ ?_
  refine wp_seq (wp_region_list ?_)
  refine cmp_move h14 (by decide) (by decide) (by decide) ?_
  intro b15 h15
  refine cmp_move h15 (by decide) (by decide) (by decide) ?_
  intro b16 h16
  refine cmp_more h16 (by rfl) (by exact ⟨ms_o KA, ms_o KB⟩) (by exact eqr_int _ Try.underlying3 _ _) (by decide) (by decide) (by decide) (by decide) ?_
  intro b17 h17
  refine cmp_move h17 (by decide) (by decide) (by decide) ?_
  intro b18 h18
  refine cmp_more h18 (by rfl) (by exact ⟨ms_w KA, ms_w KB⟩) (by exact eqr_int _ Try.underlying3 _ _) (by decide) (by decide) (by decide) (by decide) ?_
  intro b19 h19
  refine cmp_move h19 (by decide) (by decide) (by decide) ?_
  intro b20 h20
  refine cmp_more h20 (by rfl) (by exact ⟨ms_d KA, ms_d KB⟩) (by exact eqr_str _ _ _) (by decide) (by decide) (by decide) (by decide) ?_
  intro b21 h21
  refine cmp_move h21 (by decide) (by decide) (by decide) ?_
  intro b22 h22
  refine cmp_more h22 (by rfl) (by exact ⟨ms_s KA, ms_s KB⟩) (by exact eqr_int _ Try.underlying3 _ _) (by decide) (by decide) (by decide) (by decide) ?_
  intro b23 h23
  refine cmp_move h23 (by decide) (by decide) (by decide) ?_
  intro b24 h24
  refine cmp_more h24 (by rfl) (by exact ⟨ms_op KA, ms_op KB⟩) (by exact eqr_op _ _ _) (by decide) (by decide) (by decide) (by decide) ?_
  intro b25 h25
  refine cmp_move h25 (by decide) (by decide) (by decide) ?_
  intro b26 h26
  refine cmp_more h26 (by rfl) (by exact ⟨ms_r KA, ms_r KB⟩) (by exact eqr_rs _ _ _ _ _) (by decide) (by decide) (by decide) (by decide) ?_
  intro b27 h27
  refine cmp_move h27 (by decide) (by decide) (by decide) ?_
  intro b28 h28
  refine cmp_more h28 (by rfl) (by exact ⟨ms_ok KA, ms_ok KB⟩) (by exact eqr_bool _ _ _) (by decide) (by decide) (by decide) (by decide) ?_
  intro b29 h29
  refine cmp_move h29 (by decide) (by decide) (by decide) ?_
  intro b30 h30
  refine cmp_call (R := fun W => Below W2.heap.size W2 W) eg h30 (by rfl) (by exact ⟨ms_es KA, ms_es KB⟩) (by exact fun _ => HE) (by exact fun _ => Below.refl _ _) (by decide) (by decide) (by decide) (by decide) ?_
  intro b31 W3 hW3 h31
  refine cmp_assign h31 (by decide) (by decide) (by decide) ?_
  intro b32 h32
  exact wpList_nil (wp_ret (bodyPost_ret (res_tmp rfl h32.r) h32.pre.defers ⟨rfl, hB.trans (hW3.mono hB.size)⟩))
end Go.Proofs.Ytgkhjmdghmpfcaa

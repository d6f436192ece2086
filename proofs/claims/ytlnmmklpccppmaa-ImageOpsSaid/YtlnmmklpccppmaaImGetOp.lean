/-
  A reader reads an operation: seven ints.
-/
import Derived.Test.YtlnmmklpccppmaaImLaid
import Derived.Test.YtlnmmklpccppmaaImRd
namespace Go.Proofs.Ytlnmmklpccppmaa
open Go.RowKit

theorem Whole.setAt {w : World} {g : Nat} {t : TypeId} {xs : List Value} {m : Nat} {z u : Value} {k : Nat} (h : Whole w g t (xs ++ reps (m + 1) z)) (hk : xs.length = k) : Whole (w.setCell ⟨g, k, none⟩ u) g t ((xs ++ [u]) ++ reps m z) := by
  have := h.set k u
  rw [List.set_append_right k u (by omega), hk, Nat.sub_self] at this
  unfold reps at this ⊢
  rw [List.replicate_succ, List.set_cons_zero] at this
  rwa [List.append_assoc]
theorem ints_noByte (vs : List Int) (m : Nat) : ∀ u ∈ intvs vs ++ reps m (.int .i64 0), ∀ x, u ≠ .int .u8 x := by
  intro u hu x e
  subst e
  rcases List.mem_append.1 hu with h | h
  · unfold intvs at h
    obtain ⟨y, _, h⟩ := List.mem_map.1 h
    cases h
  · have := List.eq_of_mem_replicate h
    cases this
/-- The six fields' places. -/
def fieldPs (o : Nat) : List Value := [.pointer (some ⟨o, 1, none⟩), .pointer (some ⟨o, 2, none⟩), .pointer (some ⟨o, 3, none⟩), .pointer (some ⟨o, 4, none⟩), .pointer (some ⟨o, 5, none⟩), .pointer (some ⟨o, 6, none⟩)]
theorem fieldPs_get (o k : Nat) (h : k < 6) : (fieldPs o)[k]? = some (.pointer (some ⟨o, k + 1, none⟩)) := by
  rcases (show k = 0 ∨ k = 1 ∨ k = 2 ∨ k = 3 ∨ k = 4 ∨ k = 5 by omega) with rfl | rfl | rfl | rfl | rfl | rfl <;> rfl
theorem grown_sets {wr : World} {b : Nat} (v0 v1 v2 v3 v4 v5 v6 : Value) : wr.grownBy (((((((wr.setCell ⟨b, 0, none⟩ v0).setCell ⟨b, 1, none⟩ v1).setCell ⟨b, 2, none⟩ v2).setCell ⟨b, 3, none⟩ v3).setCell ⟨b, 4, none⟩ v4).setCell ⟨b, 5, none⟩ v5).setCell ⟨b, 6, none⟩ v6) (some b) :=
  grown_trans (grown_trans (grown_trans (grown_trans (grown_trans (grown_trans (grown_set wr b 0 v0) (grown_set _ b 1 v1)) (grown_set _ b 2 v2)) (grown_set _ b 3 v3)) (grown_set _ b 4 v4)) (grown_set _ b 5 v5)) (grown_set _ b 6 v6)
theorem hrdr7 {wr : World} {g b : Nat} {l : List UInt8} (h : Rdr wr g l) (hb : NoByte wr b) (hne : g ≠ b) (v0 v1 v2 v3 v4 v5 v6 : Value) : Rdr (((((((wr.setCell ⟨b, 0, none⟩ v0).setCell ⟨b, 1, none⟩ v1).setCell ⟨b, 2, none⟩ v2).setCell ⟨b, 3, none⟩ v3).setCell ⟨b, 4, none⟩ v4).setCell ⟨b, 5, none⟩ v5).setCell ⟨b, 6, none⟩ v6) g l := h.apart hb hne (grown_sets v0 v1 v2 v3 v4 v5 v6)
/-- So far: the first, and k more of them are read. -/
def OpRel (w : World) (g o q : Nat) (l : List UInt8) (i : Value) (wr : World) : Prop :=
  ∃ (k : Nat) (vs : List Int) (r : List UInt8), k ≤ 6 ∧ i = .int .i64 (k : Int) ∧ prep pint (k + 1) l = some (vs, r) ∧ Rdr wr g r ∧ Whole wr o 24 (intvs vs ++ reps (6 - k) (.int .i64 0)) ∧ Whole wr q 46 (fieldPs o) ∧ Whole wr w.heap.size 39 [.pointer (some ⟨g, 0, none⟩)] ∧ Whole wr (w.heap.size + 1) 24 [.int .i64 0, .int .i64 0, .int .i64 0, .int .i64 0, .int .i64 0, .int .i64 0, .int .i64 0] ∧ w.grownBy wr (some g)
set_option maxHeartbeats 2000000 in
theorem rdOp_any (g : Nat) (l : List UInt8) (w : World) (hr : Rdr w g l) :
    Calls Try.prog 10 #[rdv g] w (Reads w g (prep pint 7 l) fun vs v _ => v = .agg (intvs vs).toArray) := by
  have HR := Lib.hid hr
  go_enter Try.func10, Try.ntmps10
  unfold rdv
  go_wp2_with fail
  have KB := (Whole.new w #[.pointer (some ⟨g, 0, none⟩)] 39).alloc (.cells #[.int .i64 0, .int .i64 0, .int .i64 0, .int .i64 0, .int .i64 0, .int .i64 0, .int .i64 0] 24)
  have KO := Whole.new (w.alloc (.cells #[.pointer (some ⟨g, 0, none⟩)] 39)) #[.int .i64 0, .int .i64 0, .int .i64 0, .int .i64 0, .int .i64 0, .int .i64 0, .int .i64 0] 24
  rw [show (w.alloc (.cells #[.pointer (some ⟨g, 0, none⟩)] 39)).heap.size = w.heap.size + 1 by simp] at KO
  have R0 := (hr.alloc (.cells #[.pointer (some ⟨g, 0, none⟩)] 39)).alloc (.cells #[.int .i64 0, .int .i64 0, .int .i64 0, .int .i64 0, .int .i64 0, .int .i64 0, .int .i64 0] 24)
  have G0 := grown_below (((Below.refl w.heap.size w).alloc (Nat.le_refl _) (.cells #[.pointer (some ⟨g, 0, none⟩)] 39)).alloc (by simp) (.cells #[.int .i64 0, .int .i64 0, .int .i64 0, .int .i64 0, .int .i64 0, .int .i64 0, .int .i64 0] 24)) (some g)
  generalize (w.alloc (.cells #[.pointer (some ⟨g, 0, none⟩)] 39)).alloc (.cells #[.int .i64 0, .int .i64 0, .int .i64 0, .int .i64 0, .int .i64 0, .int .i64 0, .int .i64 0] 24) = W at KB KO R0 G0 ⊢
  refine (rdInt_any g l W R0).mono ?_
  have hlt := hr.lt
  rintro e w1 ⟨hg1, hm⟩
  have KB1 := Lib.hid (KB.grown hg1 (by omega))
  have KO1 := Lib.hid (KO.grown hg1 (by omega))
  have G1 := Lib.hid (grown_trans G0 hg1)
  clear KB KO R0 G0 hg1
  cases hq : pint l with
  | none =>
    rw [hq] at hm
    subst hm
    have Hst := Lib.hid (prep_stop (p := pint) (m := 0) (n := 7) (l := l) rfl hq (by omega))
    clear hq
    go_wp2
    exact ⟨rfl, G1.out, by rw [Hst.out]⟩
  | some q =>
    obtain ⟨x, r⟩ := q
    rw [hq] at hm
    obtain ⟨v, rfl, rfl, hr1⟩ := hm
    have Hp := Lib.hid (prep_step (p := pint) (n := 0) (l := l) rfl hq)
    have Hr1 := Lib.hid hr1
    have b0 := KB1.out.cell 0
    have hs1 := KO1.out.lt
    clear hq hr1
    dsimp only
    go_wp2_with fail
    have KOo := (Whole.new w1 #[.int .i64 x, .int .i64 0, .int .i64 0, .int .i64 0, .int .i64 0, .int .i64 0, .int .i64 0] 24).alloc (.cells (fieldPs w1.heap.size).toArray 46)
    have KQ := Whole.new (w1.alloc (.cells #[.int .i64 x, .int .i64 0, .int .i64 0, .int .i64 0, .int .i64 0, .int .i64 0, .int .i64 0] 24)) (fieldPs w1.heap.size).toArray 46
    rw [show (w1.alloc (.cells #[.int .i64 x, .int .i64 0, .int .i64 0, .int .i64 0, .int .i64 0, .int .i64 0, .int .i64 0] 24)).heap.size = w1.heap.size + 1 by simp] at KQ
    have B2 := ((Below.refl w1.heap.size w1).alloc (Nat.le_refl _) (.cells #[.int .i64 x, .int .i64 0, .int .i64 0, .int .i64 0, .int .i64 0, .int .i64 0, .int .i64 0] 24)).alloc (by simp) (.cells (fieldPs w1.heap.size).toArray 46)
    have KB2 := Lib.hid (KB1.out.below B2)
    have KR2 := Lib.hid (KO1.out.below B2)
    have HR2 := Lib.hid (Hr1.out.keep B2 Hr1.out.lt)
    have G2 := Lib.hid (grown_trans G1.out (grown_below B2 (some g)))
    have S2 := Lib.hid (show ((w1.alloc (.cells #[.int .i64 x, .int .i64 0, .int .i64 0, .int .i64 0, .int .i64 0, .int .i64 0, .int .i64 0] 24)).alloc (.cells (fieldPs w1.heap.size).toArray 46)).heap.size = w1.heap.size + 2 by simp)
    have HO2 := Lib.hid KOo
    have HQ2 := Lib.hid KQ
    clear KOo KQ B2 b0
    unfold fieldPs at HO2 HQ2 KB2 KR2 HR2 G2 S2
    generalize (w1.alloc (.cells #[.int .i64 x, .int .i64 0, .int .i64 0, .int .i64 0, .int .i64 0, .int .i64 0, .int .i64 0] 24)).alloc (.cells [Value.pointer (some ⟨w1.heap.size, 1, none⟩), .pointer (some ⟨w1.heap.size, 2, none⟩), .pointer (some ⟨w1.heap.size, 3, none⟩), .pointer (some ⟨w1.heap.size, 4, none⟩), .pointer (some ⟨w1.heap.size, 5, none⟩), .pointer (some ⟨w1.heap.size, 6, none⟩)].toArray 46) = W2 at *
    go_loopw [17] (OpRel w g w1.heap.size (w1.heap.size + 1) l) (fun i _ => 6 - (intOf i).toNat)
    case atStart => exact ⟨0, [x], r, by omega, rfl, Hp.out, HR2.out, HO2.out, HQ2.out, KB2.out, KR2.out, G2.out⟩
    case round =>
      obtain ⟨k, vs, r, hk, rfl, hpr, hrd, hw, hq, hb, hres, hgr⟩ := hrel
      have Hres := Lib.hid hres
      have hlen := prep_len hpr
      have Hrd := Lib.hid hrd
      have Hw := Lib.hid hw
      have Hq := Lib.hid hq
      have Hb := Lib.hid hb
      have Hg := Lib.hid hgr
      have Hpr := Lib.hid hpr
      clear hrd hw hgr hpr hres
      by_cases hlt : k < 6
      · have hki : (k : Int) < 6 := by omega
        have b0 := hb.cell 0
        have q0 : wr.cell? ⟨w1.heap.size + 1, k, none⟩ = some (.pointer (some ⟨w1.heap.size, k + 1, none⟩)) := by rw [hq.cell, fieldPs_get _ _ hlt]
        clear hq hb
        go_wp2_with fail
        refine (rdInt_any g r wr Hrd.out).mono ?_
        rintro e w3 ⟨hg3, hm⟩
        have G3 := Lib.hid (grown_trans Hg.out hg3)
        cases hq : pint r with
        | none =>
          rw [hq] at hm
          subst hm
          have Hst := Lib.hid (prep_stop (n := 7) Hpr.out hq (by omega))
          clear hq hg3
          go_wp2
          exact ⟨rfl, G3.out, by rw [Hst.out]⟩
        | some q =>
          obtain ⟨y, r'⟩ := q
          rw [hq] at hm
          obtain ⟨v, rfl, rfl, hr3⟩ := hm
          have Hp3 := Lib.hid (prep_step Hpr.out hq)
          have hgl := hr.lt
          have W3 := Hw.out.grown hg3 (by omega)
          have Q3 := Lib.hid (Hq.out.grown hg3 (by omega))
          have B3 := Lib.hid (Hb.out.grown hg3 (by omega))
          have R3 := Lib.hid (Hres.out.grown hg3 (by omega))
          have hk1 : 6 - k = (6 - (k + 1)) + 1 := by omega
          rw [hk1] at W3
          have c0 : w3.cell? ⟨w1.heap.size, k + 1, none⟩ = some (.int .i64 0) := by
            have := W3.cell (k + 1)
            rw [List.getElem?_append_right (by rw [intvs_length]; omega), intvs_length, hlen, Nat.sub_self] at this
            exact this
          have z0 := W3.free (k + 1)
          have G4 := Lib.hid (grown_new G3.out (b := w1.heap.size) (by omega) (k + 1) (.int .i64 y))
          have g4 := grown_set w3 w1.heap.size (k + 1) (.int .i64 y)
          have Rd4 := Lib.hid (hr3.apart (W3.noByte (ints_noByte _ _)) (by omega) g4)
          have W4 := Lib.hid (W3.setAt (u := .int .i64 y) (k := k + 1) (by rw [intvs_length]; exact hlen))
          have Q4 := Lib.hid (Q3.out.grown g4 (by omega))
          have B4 := Lib.hid (B3.out.grown g4 (by omega))
          have R4 := Lib.hid (R3.out.grown g4 (by omega))
          clear hq hk1 W3 hr3 hg3 hlen g4 b0 q0 hgl
          dsimp only
          go_wp2
          go_roundw
          case rel =>
            refine ⟨k + 1, vs ++ [y], r', by omega, by go_num, Hp3.out, Rd4.out, ?_, Q4.out, B4.out, R4.out, G4.out⟩
            have := W4.out
            unfold intvs at this ⊢
            rw [List.map_append]
            exact this
          case measure => simp [intOf]; omega
      · obtain rfl : k = 6 := by omega
        match vs, hlen with
        | [v0, v1, v2, v3, v4, v5, v6], _ =>
          have o0 : wr.cell? ⟨w1.heap.size, 0, none⟩ = some (.int .i64 v0) := Hw.out.cell 0
          have o1 : wr.cell? ⟨w1.heap.size, 1, none⟩ = some (.int .i64 v1) := Hw.out.cell 1
          have o2 : wr.cell? ⟨w1.heap.size, 2, none⟩ = some (.int .i64 v2) := Hw.out.cell 2
          have o3 : wr.cell? ⟨w1.heap.size, 3, none⟩ = some (.int .i64 v3) := Hw.out.cell 3
          have o4 : wr.cell? ⟨w1.heap.size, 4, none⟩ = some (.int .i64 v4) := Hw.out.cell 4
          have o5 : wr.cell? ⟨w1.heap.size, 5, none⟩ = some (.int .i64 v5) := Hw.out.cell 5
          have o6 : wr.cell? ⟨w1.heap.size, 6, none⟩ = some (.int .i64 v6) := Hw.out.cell 6
          have p0 : wr.cell? ⟨w.heap.size + 1, 0, none⟩ = some (.int .i64 0) := Hres.out.cell 0
          have z0 := Hres.out.free 0
          have p1 : wr.cell? ⟨w.heap.size + 1, 1, none⟩ = some (.int .i64 0) := Hres.out.cell 1
          have z1 := Hres.out.free 1
          have p2 : wr.cell? ⟨w.heap.size + 1, 2, none⟩ = some (.int .i64 0) := Hres.out.cell 2
          have z2 := Hres.out.free 2
          have p3 : wr.cell? ⟨w.heap.size + 1, 3, none⟩ = some (.int .i64 0) := Hres.out.cell 3
          have z3 := Hres.out.free 3
          have p4 : wr.cell? ⟨w.heap.size + 1, 4, none⟩ = some (.int .i64 0) := Hres.out.cell 4
          have z4 := Hres.out.free 4
          have p5 : wr.cell? ⟨w.heap.size + 1, 5, none⟩ = some (.int .i64 0) := Hres.out.cell 5
          have z5 := Hres.out.free 5
          have p6 : wr.cell? ⟨w.heap.size + 1, 6, none⟩ = some (.int .i64 0) := Hres.out.cell 6
          have z6 := Hres.out.free 6
          have hne : ¬ w.heap.size + 1 = w1.heap.size := by omega
          have K7 := Lib.hid (((((((Hres.out.set 0 (.int .i64 v0)).set 1 (.int .i64 v1)).set 2 (.int .i64 v2)).set 3 (.int .i64 v3)).set 4 (.int .i64 v4)).set 5 (.int .i64 v5)).set 6 (.int .i64 v6))
          clear hb hq
          go_wp2
          have Hf := Lib.hid (show w.grownBy (((((((wr.setCell ⟨w.heap.size + 1, 0, none⟩ (.int .i64 v0)).setCell ⟨w.heap.size + 1, 1, none⟩ (.int .i64 v1)).setCell ⟨w.heap.size + 1, 2, none⟩ (.int .i64 v2)).setCell ⟨w.heap.size + 1, 3, none⟩ (.int .i64 v3)).setCell ⟨w.heap.size + 1, 4, none⟩ (.int .i64 v4)).setCell ⟨w.heap.size + 1, 5, none⟩ (.int .i64 v5)).setCell ⟨w.heap.size + 1, 6, none⟩ (.int .i64 v6)) (some g) from
            grown_new (grown_new (grown_new (grown_new (grown_new (grown_new (grown_new Hg.out (Nat.le_succ _) 0 _) (Nat.le_succ _) 1 _) (Nat.le_succ _) 2 _) (Nat.le_succ _) 3 _) (Nat.le_succ _) 4 _) (Nat.le_succ _) 5 _) (Nat.le_succ _) 6 _)
          have N0 := Hres.out.noByte (ints_noByte [] 7)
          have hgl := hr.lt
          have hr7 := hrdr7 Hrd.out N0 (by omega : g ≠ w.heap.size + 1) (.int .i64 v0) (.int .i64 v1) (.int .i64 v2) (.int .i64 v3) (.int .i64 v4) (.int .i64 v5) (.int .i64 v6)
          refine bodyPost_ret (results_c1 rfl _ _ _ _ rfl K7.out Try.underlying24 (by kernel_rfl)) rfl ?_
          exact ⟨Hf.out, by rw [Hpr.out]; exact ⟨_, rfl, rfl, hr7⟩⟩
end Go.Proofs.Ytlnmmklpccppmaa

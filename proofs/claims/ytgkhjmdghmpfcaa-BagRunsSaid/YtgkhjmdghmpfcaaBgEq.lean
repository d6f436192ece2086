/-
  Operations, results and entries are compared; rows of entries: contracts.
-/
import Derived.Test.YtgkhjmdghmpfcaaBgMem
import Derived.RegionTactic
import Derived.BigQuiet
import Derived.Deep.QuietTactic
import Derived.Lib.QuietBelow
namespace Go.Proofs.Ytgkhjmdghmpfcaa
open Go.RowKit

set_option maxHeartbeats 1000000 in
theorem run_neq_en (x y : En) (W : World) : (binOp .neq 66 (.agg (ec x).toArray) (.agg (ec y).toArray)).run Try.prog W = .ok (.bool (!decide (x = y))) W := by
  have u3 := Try.underlying3
  have a3' := Try.isAgg3
  have z3 := Try.sizeOf3
  have u5 := Try.underlying41
  have a5' := Try.isAgg41
  have z5 := Try.sizeOf41
  have u6 := Try.underlying43
  have a6' := Try.isAgg43
  have z6 := Try.sizeOf43
  have hS : Try.prog.underlying 66 = some (.struct (Try.prog.fieldsOf 66)) := by kernel_rfl
  have hp : Try.prog.stoodInHeld 66 = false := by kernel_rfl
  have hS2 : Try.prog.underlying 43 = some (.struct (Try.prog.fieldsOf 43)) := by kernel_rfl
  have hp2 : Try.prog.stoodInHeld 43 = false := by kernel_rfl
  obtain ⟨x0, x1, x2, x3, ⟨x4, x5, x6, x7, x8, x9, x10⟩⟩ := x
  obtain ⟨y0, y1, y2, y3, ⟨y4, y5, y6, y7, y8, y9, y10⟩⟩ := y
  unfold ec
  rw [run_neq_struct, show (10000 : Nat) = 9999 + 1 from rfl, run_equalIn_agg W 9999 66 _ _ hS hp]
  simp only [Program.fieldsOf, Try.underlying66]
  go_simp
  repeat' split
  all_goals simp [*]
set_option maxHeartbeats 1000000 in
theorem run_eql_op7 (x y : Op7) (W : World) : (binOp .eql 43 (.agg (opc x).toArray) (.agg (opc y).toArray)).run Try.prog W = .ok (.bool (decide (x = y))) W := by
  have u3 := Try.underlying3
  have a3' := Try.isAgg3
  have z3 := Try.sizeOf3
  have u5 := Try.underlying41
  have a5' := Try.isAgg41
  have z5 := Try.sizeOf41
  have hS2 : Try.prog.underlying 43 = some (.struct (Try.prog.fieldsOf 43)) := by kernel_rfl
  have hp2 : Try.prog.stoodInHeld 43 = false := by kernel_rfl
  obtain ⟨x4, x5, x6, x7, x8, x9, x10⟩ := x
  obtain ⟨y4, y5, y6, y7, y8, y9, y10⟩ := y
  unfold opc
  rw [run_eql_struct, show (10000 : Nat) = 9999 + 1 from rfl, run_equalIn_agg W 9999 43 _ _ hS2 hp2]
  simp only [Program.fieldsOf, Try.underlying43]
  go_simp
  repeat' split
  all_goals simp [*]
theorem run_eql_rs (x o y p : Int) (W : World) : (binOp .eql 45 (.agg #[.int .i64 x, .int .i64 o]) (.agg #[.int .i64 y, .int .i64 p])).run Try.prog W = .ok (.bool (decide (x = y ∧ o = p))) W := by
  have u3 := Try.underlying3
  have a3 := Try.isAgg3
  have z3 := Try.sizeOf3
  have u4 := Try.underlying25
  have a4 := Try.isAgg25
  have z4 := Try.sizeOf25
  have hS : Try.prog.underlying 45 = some (.struct (Try.prog.fieldsOf 45)) := by kernel_rfl
  have hp : Try.prog.stoodInHeld 45 = false := by kernel_rfl
  rw [run_eql_struct, show (10000 : Nat) = 9999 + 1 from rfl, run_equalIn_agg W 9999 45 _ _ hS hp]
  simp only [Program.fieldsOf, Try.underlying45]
  go_simp
  by_cases h1 : x = y <;> by_cases h2 : o = p <;> simp [h1, h2]

/-! ### Rows of entries -/
def EqPost (w : World) (q : Bool) (e : Ending) (w' : World) : Prop := e = .returned (.bool q) ∧ Below w.heap.size w w'
def EsRel (w : World) (l m : List En) (i : Value) (wr : World) : Prop := ∃ k : Nat, k ≤ l.length ∧ i = .int .i64 (k : Int) ∧ l.take k = m.take k ∧ Below w.heap.size w wr
theorem take_snoc {α : Type} {l : List α} {k : Nat} {x : α} (h : l[k]? = some x) : l.take (k + 1) = l.take k ++ [x] := by
  rw [List.take_add_one, h]
  rfl
theorem load_en {w : World} {b o : Nat} {x : En} (h : ∀ (i : Nat) (u : Value), (ec x)[i]? = some u → w.cell? ⟨b, o + i, none⟩ = some u) :
    (Instr.loadAt 66 (.pointer (some ⟨b, o, none⟩))).run Try.prog w = .ok (.agg (ec x).toArray) w :=
  run_loadAt_mid w b o 66 (ec x) _ h Try.underlying66 rfl (by rw [ec_len]; kernel_rfl)
set_option maxRecDepth 20000 in
set_option maxHeartbeats 2000000 in
theorem Entries_any {A B : Option Addr} {n c m d : Nat} {l1 l2 : List En} {w : World} (h1 : RdE w A n l1) (h2 : RdE w B m l2) (hn : n ≤ 1000000) :
    Calls Try.prog 28 #[.slice A n c, .slice B m d] w (EqPost w (decide (l1 = l2))) := by
  have hl1 := Lib.hid h1.len
  have hl2 := Lib.hid h2.len
  by_cases hnm : n = m
  · subst hnm
    have H1 := Lib.hid h1
    have H2 := Lib.hid h2
    have neq := run_neq_en
    clear h1 h2
    go_enter Try.func28, Try.ntmps28
    go_wp2
    go_loopw [5] (EsRel w l1 l2) (fun i _ => n - (Go.RowKit.intOf i).toNat)
    case atStart => exact ⟨0, Nat.zero_le _, rfl, by simp, Below.refl _ _⟩
    case round =>
      obtain ⟨k, hk, rfl, hsm, hb⟩ := hrel
      have Hsm := Lib.hid hsm
      have HB := Lib.hid hb
      clear hsm
      by_cases hlt : k < n
      · obtain ⟨b1, o1, x1, rfl, hb1, hx1, hc1⟩ := (H1.out.below hb).get hlt
        obtain ⟨b2, o2, x2, rfl, hb2, hx2, hc2⟩ := (H2.out.below hb).get hlt
        have Hx1 := Lib.hid hx1
        have Hx2 := Lib.hid hx2
        clear hb hx1 hx2
        have p0 := hc1 0 _ rfl
        have p1 := hc1 1 _ rfl
        have p2 := hc1 2 _ rfl
        have p3 := hc1 3 _ rfl
        have p4 := hc1 4 _ rfl
        have p5 := hc1 5 _ rfl
        have p6 := hc1 6 _ rfl
        have p7 := hc1 7 _ rfl
        have p8 := hc1 8 _ rfl
        have p9 := hc1 9 _ rfl
        have p10 := hc1 10 _ rfl
        have q0 := hc2 0 _ rfl
        have q1 := hc2 1 _ rfl
        have q2 := hc2 2 _ rfl
        have q3 := hc2 3 _ rfl
        have q4 := hc2 4 _ rfl
        have q5 := hc2 5 _ rfl
        have q6 := hc2 6 _ rfl
        have q7 := hc2 7 _ rfl
        have q8 := hc2 8 _ rfl
        have q9 := hc2 9 _ rfl
        have q10 := hc2 10 _ rfl
        rw [Nat.add_zero] at p0 q0
        have ne := neq x1 x2
        unfold ec at ne
        clear neq hc1 hc2
        by_cases he : x1 = x2
        · have d1 : decide (x1 = x2) = true := decide_eq_true he
          rw [d1] at ne
          have Hn := Lib.hid (show l1.take (k + 1) = l2.take (k + 1) by rw [take_snoc Hx1.out, take_snoc Hx2.out, Hsm.out, he])
          clear he d1
          go_wp2
          go_quiet (fail)
          go_wp2
          go_roundw
          case rel => exact ⟨k + 1, by have := hl1.out; omega, by go_num, Hn.out, below_drewN HB.out _⟩
          case measure => simp [Go.RowKit.intOf]; omega
        · have d1 : decide (x1 = x2) = false := decide_eq_false he
          rw [d1] at ne
          have Hn := Lib.hid (show l1 ≠ l2 from fun e => by
            have h := Hx1.out
            rw [e, Hx2.out] at h
            injection h with h
            exact he h.symm)
          clear he d1
          go_wp2
          go_quiet (fail)
          go_wp2
          go_ret
          exact ⟨by rw [decide_eq_false Hn.out]; rfl, below_drewN HB.out _⟩
      · obtain rfl : k = n := by have := hl1.out; omega
        have He := Lib.hid (show l1 = l2 by
          have h := Hsm.out
          rw [List.take_of_length_le (by have := hl1.out; omega), List.take_of_length_le (by have := hl2.out; omega)] at h
          exact h)
        go_wp2
        go_ret
        exact ⟨by rw [decide_eq_true He.out]; rfl, HB.out⟩
  · have Hn := Lib.hid (show l1 ≠ l2 from fun e => hnm (by rw [← hl1.out, ← hl2.out, e]))
    have hni : decide ((n : Int) = (m : Int)) = false := by simp; omega
    clear h1 h2 hl1 hl2
    go_enter Try.func28, Try.ntmps28
    go_wp2
    go_ret
    exact ⟨by rw [decide_eq_false Hn.out]; rfl, Below.refl _ _⟩

set_option maxRecDepth 20000 in
set_option maxHeartbeats 2000000 in
theorem Equal_any {A B : Option Addr} {n c m d : Nat} {l1 l2 : List En} {w : World} (h1 : RdE w A n l1) (h2 : RdE w B m l2) (hn : n ≤ 1000000) :
    Calls Try.prog 27 #[.slice A n c, .slice B m d] w (EqPost w (decide (l1 = l2))) := by
  have hl1 := Lib.hid h1.len
  have hl2 := Lib.hid h2.len
  by_cases hnm : n = m
  · subst hnm
    have H1 := Lib.hid h1
    have H2 := Lib.hid h2
    have neq := run_neq_en
    clear h1 h2
    go_enter Try.func27, Try.ntmps27
    go_wp2
    go_loopw [13] (EsRel w l1 l2) (fun i _ => n - (Go.RowKit.intOf i).toNat)
    case atStart => exact ⟨0, Nat.zero_le _, rfl, by simp, Below.refl _ _⟩
    case round =>
      obtain ⟨k, hk, rfl, hsm, hb⟩ := hrel
      have Hsm := Lib.hid hsm
      have HB := Lib.hid hb
      clear hsm
      by_cases hlt : k < n
      · obtain ⟨b1, o1, x1, rfl, hb1, hx1, hc1⟩ := (H1.out.below hb).get hlt
        obtain ⟨b2, o2, x2, rfl, hb2, hx2, hc2⟩ := (H2.out.below hb).get hlt
        have Hx1 := Lib.hid hx1
        have Hx2 := Lib.hid hx2
        clear hb hx1 hx2
        have p0 := hc1 0 _ rfl
        have p1 := hc1 1 _ rfl
        have p2 := hc1 2 _ rfl
        have p3 := hc1 3 _ rfl
        have p4 := hc1 4 _ rfl
        have p5 := hc1 5 _ rfl
        have p6 := hc1 6 _ rfl
        have p7 := hc1 7 _ rfl
        have p8 := hc1 8 _ rfl
        have p9 := hc1 9 _ rfl
        have p10 := hc1 10 _ rfl
        have q0 := hc2 0 _ rfl
        have q1 := hc2 1 _ rfl
        have q2 := hc2 2 _ rfl
        have q3 := hc2 3 _ rfl
        have q4 := hc2 4 _ rfl
        have q5 := hc2 5 _ rfl
        have q6 := hc2 6 _ rfl
        have q7 := hc2 7 _ rfl
        have q8 := hc2 8 _ rfl
        have q9 := hc2 9 _ rfl
        have q10 := hc2 10 _ rfl
        rw [Nat.add_zero] at p0 q0
        have ne := neq x1 x2
        unfold ec at ne
        clear neq hc1 hc2
        by_cases he : x1 = x2
        · have d1 : decide (x1 = x2) = true := decide_eq_true he
          rw [d1] at ne
          have Hn := Lib.hid (show l1.take (k + 1) = l2.take (k + 1) by rw [take_snoc Hx1.out, take_snoc Hx2.out, Hsm.out, he])
          clear he d1
          go_wp2
          go_quiet (fail)
          go_wp2
          go_roundw
          case rel => exact ⟨k + 1, by have := hl1.out; omega, by go_num, Hn.out, below_drewN HB.out _⟩
          case measure => simp [Go.RowKit.intOf]; omega
        · have d1 : decide (x1 = x2) = false := decide_eq_false he
          rw [d1] at ne
          have Hn := Lib.hid (show l1 ≠ l2 from fun e => by
            have h := Hx1.out
            rw [e, Hx2.out] at h
            injection h with h
            exact he h.symm)
          clear he d1
          go_wp2
          go_quiet (fail)
          go_wp2
          go_ret
          exact ⟨by rw [decide_eq_false Hn.out]; rfl, below_drewN HB.out _⟩
      · obtain rfl : k = n := by have := hl1.out; omega
        have He := Lib.hid (show l1 = l2 by
          have h := Hsm.out
          rw [List.take_of_length_le (by have := hl1.out; omega), List.take_of_length_le (by have := hl2.out; omega)] at h
          exact h)
        go_wp2
        go_ret
        exact ⟨by rw [decide_eq_true He.out]; rfl, HB.out⟩
  · have Hn := Lib.hid (show l1 ≠ l2 from fun e => hnm (by rw [← hl1.out, ← hl2.out, e]))
    have hni : decide ((n : Int) = (m : Int)) = false := by simp; omega
    clear h1 h2 hl1 hl2
    go_enter Try.func27, Try.ntmps27
    go_wp2
    go_ret
    exact ⟨by rw [decide_eq_false Hn.out]; rfl, Below.refl _ _⟩

end Go.Proofs.Ytgkhjmdghmpfcaa

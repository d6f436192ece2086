/-
  The document's Best: contract.
-/
import Derived.Test.YtbfamijlaoopaaaVwRefD
import Derived.Deep.QuietTactic
import Derived.BigQuiet
import Derived.RegionTactic
import Derived.Lib.QuietBelow
namespace Go.Proofs.Ytbfamijlaoopaaa
open Go.RowKit
def vtc (v : Vt) : List Value := [.int .i64 v.node, .int .i64 v.nm, .int .i64 v.b, .int .i64 v.n, .int .i64 v.c, v.e]
theorem vtc_len (v : Vt) : (vtc v).length = 6 := rfl
/-- A slice reads as these votes. -/
structure RdT (w : World) (A : Option Addr) (n : Nat) (l : List Vt) : Prop where
  len : l.length = n
  rd : RdC w A n 6 (l.flatMap vtc)
section
variable {w w' : World} {A : Option Addr} {n : Nat} {l : List Vt}
theorem RdT.below (h : RdT w A n l) (hb : Below w.heap.size w w') : RdT w' A n l := ⟨h.len, h.rd.below hb⟩
theorem RdT.at_ (h : RdT w A n l) (h0 : 0 < n) : ∃ b off, A = some ⟨b, off, none⟩ ∧ ∀ j, j < n → w.cell? ⟨b, off + j * 6 + 1, none⟩ = some (.int .i64 (l.getD j zvt).nm) ∧ w.cell? ⟨b, off + j * 6 + 3, none⟩ = some (.int .i64 (l.getD j zvt).n) := by
  obtain ⟨b, off, e, hb, hc⟩ := h.rd.at_ h0
  refine ⟨b, off, e, fun j hj => ?_⟩
  have hl : j < l.length := by have := h.len; omega
  have hg := List.getElem?_eq_getElem hl
  have hd : l.getD j zvt = l[j] := by simp [List.getD, hg]
  rw [hd]
  exact ⟨by rw [Nat.add_assoc]; exact hc (j * 6 + 1) _ (fm_get vtc_len hg (i := 1) rfl), by rw [Nat.add_assoc]; exact hc (j * 6 + 3) _ (fm_get vtc_len hg (i := 3) rfl)⟩
end
def BeRel (W : World) (l : List Vt) (a i : Value) (wr : World) : Prop := ∃ k : Nat, k ≤ l.length ∧ i = .int .i64 (k : Int) ∧ a = .int .i64 (bestP l k) ∧ Below W.heap.size W wr
set_option maxHeartbeats 2000000 in
theorem rbest_any {A : Option Addr} {m c : Nat} {l : List Vt} {w : World} (h : RdT w A m l) (hm : m ≤ 1000000) : Calls Try.prog 25 #[.slice A m c] w fun e w' => e = .returned (.int .i64 (bestP l l.length)) ∧ Below w.heap.size w w' := by
  have HR := Lib.hid h
  have HL := Lib.hid h.len
  clear h
  go_enter Try.func25, Try.ntmps25
  go_wp2
  go_loopw [3, 4] (BeRel w l) (fun _ i _ => m - (Go.RowKit.intOf i).toNat)
  case atStart => exact ⟨0, Nat.zero_le _, rfl, rfl, Below.refl _ _⟩
  case round =>
    obtain ⟨k, hk, rfl, rfl, hb⟩ := hrel
    have HB := Lib.hid hb
    clear hb
    rw [HL.out] at hk
    by_cases hlt : k < m
    · have hki : (k : Int) < (m : Int) := by omega
      have hs : bestP l (k + 1) = if bestP l k < 0 ∨ gtv (l.getD k zvt) (l.getD (bestP l k).toNat zvt) = true then (k : Int) else bestP l k := rfl
      by_cases hk0 : k = 0
      · subst hk0
        have Hs := Lib.hid (show bestP l (0 + 1) = ((0 : Nat) : Int) by rw [hs, if_pos (.inl (by unfold bestP; omega))])
        rw [show bestP l 0 = -1 from rfl]
        clear hs
        go_wp2
        go_quiet (fail)
        go_wp2
        go_roundw
        case rel => exact ⟨1, by have := HL.out; omega, by go_num, by rw [Hs.out], below_drewN HB.out _⟩
        case measure => simp [Go.RowKit.intOf]; omega
      · obtain ⟨h1, h2, -, -⟩ := bestP_spec l k (by omega)
        obtain ⟨b, off, rfl, hc⟩ := (HR.out.below HB.out).at_ (by omega)
        obtain ⟨c1, c3⟩ := hc k hlt
        obtain ⟨t, ht⟩ : ∃ t : Nat, bestP l k = (t : Int) := ⟨(bestP l k).toNat, by omega⟩
        rw [ht] at hs h1 h2 ⊢
        rw [Int.toNat_natCast] at hs
        obtain ⟨d1, d3⟩ := hc t (by omega)
        clear hc
        unfold gtv at hs
        generalize (l.getD k zvt).nm = xm at *
        generalize (l.getD k zvt).n = xn at *
        generalize (l.getD t zvt).nm = ym at *
        generalize (l.getD t zvt).n = yn at *
        have hti : (t : Int) < (m : Int) := by omega
        have hcase : (ym < xm ∧ bestP l (k + 1) = (k : Int)) ∨ (¬ ym < xm ∧ xm = ym ∧ yn < xn ∧ bestP l (k + 1) = (k : Int)) ∨ (¬ ym < xm ∧ xm = ym ∧ ¬ yn < xn ∧ bestP l (k + 1) = (t : Int)) ∨ (¬ ym < xm ∧ ¬ xm = ym ∧ bestP l (k + 1) = (t : Int)) := by
          rw [hs]
          split
          · rename_i hg
            simp only [Bool.or_eq_true, Bool.and_eq_true, decide_eq_true_eq] at hg
            omega
          · rename_i hg
            simp only [Bool.or_eq_true, Bool.and_eq_true, decide_eq_true_eq] at hg
            omega
        clear hs ht
        have g0 : decide ((t : Int) < 0) = false := by simp
        rcases hcase with ⟨e1, e4⟩ | ⟨e1, e2, e3, e4⟩ | ⟨e1, e2, e3, e4⟩ | ⟨e1, e2, e4⟩
        · have He := Lib.hid e4
          have g3 : decide (ym < xm) = true := by simp [e1]
          clear e4
          go_wp2
          go_quiet (fail)
          go_wp2
          go_roundw
          case rel => exact ⟨k + 1, by have := HL.out; omega, by go_num, by rw [He.out], below_drewN HB.out _⟩
          case measure => simp [Go.RowKit.intOf]; omega
        · have He := Lib.hid e4
          have g3 : decide (ym < xm) = false := by simp; omega
          have g4 : decide (yn < xn) = true := by simp [e3]
          have g1 : (xm == ym) = true := by simp [e2]
          have g2 : decide (xm = ym) = true := by simp [e2]
          clear e4 e2
          go_wp2
          go_quiet (fail)
          go_wp2
          go_roundw
          case rel => exact ⟨k + 1, by have := HL.out; omega, by go_num, by rw [He.out], below_drewN HB.out _⟩
          case measure => simp [Go.RowKit.intOf]; omega
        · have He := Lib.hid e4
          have g3 : decide (ym < xm) = false := by simp; omega
          have g4 : decide (yn < xn) = false := by simp; omega
          have g1 : (xm == ym) = true := by simp [e2]
          have g2 : decide (xm = ym) = true := by simp [e2]
          clear e4 e2
          go_wp2
          go_quiet (fail)
          go_wp2
          go_roundw
          case rel => exact ⟨k + 1, by have := HL.out; omega, by go_num, by rw [He.out], below_drewN HB.out _⟩
          case measure => simp [Go.RowKit.intOf]; omega
        · have He := Lib.hid e4
          have g3 : decide (ym < xm) = false := by simp; omega
          have g1 : (xm == ym) = false := by simp [e2]
          have g2 : decide (xm = ym) = false := by simp [e2]
          clear e4 e2
          go_wp2
          go_quiet (fail)
          go_wp2
          go_roundw
          case rel => exact ⟨k + 1, by have := HL.out; omega, by go_num, by rw [He.out], below_drewN HB.out _⟩
          case measure => simp [Go.RowKit.intOf]; omega
    · obtain rfl : k = m := by omega
      have hki : ¬ ((k : Int) < (k : Int)) := by omega
      have Hk := Lib.hid (show bestP l k = bestP l l.length by rw [HL.out])
      go_wp2
      go_ret
      exact ⟨by rw [← Hk.out]; rfl, HB.out⟩
end Go.Proofs.Ytbfamijlaoopaaa

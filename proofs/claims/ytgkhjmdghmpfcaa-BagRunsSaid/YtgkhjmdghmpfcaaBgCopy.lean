/-
  Rows of messages are compared (the document's All); a message's copy, by the document (Own) and by the program (copyOf): contracts.
-/
import Derived.Test.YtgkhjmdghmpfcaaBgSame
import Derived.Test.YtgkhjmdghmpfcaaStrCl
import Derived.Deep.RegionWith
import Derived.StillTailTactics
namespace Go.Proofs.Ytgkhjmdghmpfcaa
open Go.RowKit

/-! ### All -/
def names (l : List (Ms × Value)) : List Ms := l.map (·.1)
theorem names_get {l : List (Ms × Value)} {j : Nat} {p : Ms × Value} (h : l[j]? = some p) : (names l)[j]? = some p.1 := by simp [names, h]
theorem names_len (l : List (Ms × Value)) : (names l).length = l.length := by simp [names]
def AlRel (w : World) (l m : List (Ms × Value)) (i : Value) (wr : World) : Prop := ∃ k : Nat, k ≤ l.length ∧ i = .int .i64 (k : Int) ∧ (names l).take k = (names m).take k ∧ Below w.heap.size w wr
/-- What is small enough to be looked at. -/
def SmallM (m : Ms) : Prop := m.es.length ≤ 1000 ∧ m.d.size ≤ 200000
set_option maxRecDepth 20000 in
set_option maxHeartbeats 2000000 in
theorem all_any {A B : Option Addr} {n c m d : Nat} {l1 l2 : List (Ms × Value)} {w : World} (h1 : RdM w A n l1) (h2 : RdM w B m l2) (hn : n ≤ 1000000) (hs : ∀ p ∈ l1, p.1.es.length ≤ 1000000) :
    Calls Try.prog 14 #[.slice A n c, .slice B m d] w (EqPost w (decide (names l1 = names l2))) := by
  have hl1 := Lib.hid h1.len
  have hl2 := Lib.hid h2.len
  by_cases hnm : n = m
  · subst hnm
    have H1 := Lib.hid h1
    have H2 := Lib.hid h2
    have Hs := Lib.hid hs
    have eg : ∀ args w, (callFunc 18 args).run Try.prog w = .ok (.enter 18 args) w := enters_of Try.func18 (by kernel_rfl) rfl
    have mixed : Try.prog.follows .mixedOrders = true := by kernel_rfl
    clear h1 h2 hs
    go_enter Try.func14, Try.ntmps14
    go_wp2
    go_loopw [5] (AlRel w l1 l2) (fun i _ => n - (Go.RowKit.intOf i).toNat)
    case atStart => exact ⟨0, Nat.zero_le _, rfl, by simp, Below.refl _ _⟩
    case round =>
      obtain ⟨k, hk, rfl, hsm, hb⟩ := hrel
      have Hsm := Lib.hid hsm
      have HB := Lib.hid hb
      clear hsm
      by_cases hlt : k < n
      · obtain ⟨b1, o1, ⟨m1, e1⟩, rfl, hb1, hx1, hr1, hc1⟩ := (H1.out.below hb).get hlt
        obtain ⟨b2, o2, ⟨m2, e2⟩, rfl, hb2, hx2, hr2, hc2⟩ := (H2.out.below hb).get hlt
        have Hx1 := Lib.hid (names_get hx1)
        have Hx2 := Lib.hid (names_get hx2)
        have HC := Lib.hid (fun (W : World) (g : Below wr.heap.size wr W) => refSame_any m1 m2 e1 e2 W (hr1.below g) (hr2.below g) (Hs.out _ (List.mem_of_getElem? hx1)))
        have HL1 := Lib.hid (fun (W : World) (g : Below wr.heap.size wr W) => load_ms (range_grown hc1 (g.block _ (Nat.lt_of_lt_of_le hb1 (Nat.le_refl _)))))
        have HL2 := Lib.hid (fun (W : World) (g : Below wr.heap.size wr W) => load_ms (range_grown hc2 (g.block _ (Nat.lt_of_lt_of_le hb2 (Nat.le_refl _)))))
        have hki : (k : Int) < (n : Int) := by omega
        clear hb hx1 hx2 hr1 hr2 hc1 hc2 hb1 hb2
        go_upto_region 6 with (fail)
        refine wp_region_quietB mixed (by kernel_rfl) ?_
        repeat (go_big_quiet_step (fail))
        refine q_pure (v := .pointer (some ⟨b1, o1 + k * 23, none⟩)) rfl (fun W hW => by simp only [execOp]; go_simp) ?_
        simp only [Act.put, List.setIfInBounds_toArray, List.set_cons_zero, List.set_cons_succ]
        refine q_load HL1.out ?_
        simp only [Act.put, List.setIfInBounds_toArray, List.set_cons_zero, List.set_cons_succ]
        repeat (go_big_quiet_step (fail))
        refine q_pure (v := .pointer (some ⟨b2, o2 + k * 23, none⟩)) rfl (fun W hW => by simp only [execOp]; go_simp) ?_
        simp only [Act.put, List.setIfInBounds_toArray, List.set_cons_zero, List.set_cons_succ]
        refine q_load HL2.out ?_
        simp only [Act.put, List.setIfInBounds_toArray, List.set_cons_zero, List.set_cons_succ]
        refine q_call (vs := #[mval m1 e1, mval m2 e2]) eg rfl (fun W hW => (HC.out W hW).mono fun e W' h => ⟨h.1, hW.trans (h.2.mono hW.size)⟩) ?_
        simp only [Act.put, List.setIfInBounds_toArray, List.set_cons_zero, List.set_cons_succ]
        refine q_pure (v := .bool (!decide (m1 = m2))) rfl (fun W hW => by simp only [execOp]; go_simp) ?_
        simp only [Act.put, List.setIfInBounds_toArray, List.set_cons_zero, List.set_cons_succ]
        refine wpQuiet_nil ?_
        intro w2 hw2
        have HB2 := Lib.hid (HB.out.trans (hw2.mono HB.out.size))
        clear hw2 HL1 HL2 HC
        by_cases he : m1 = m2
        · have d1 : decide (m1 = m2) = true := decide_eq_true he
          have Hn := Lib.hid (show (names l1).take (k + 1) = (names l2).take (k + 1) by rw [take_snoc Hx1.out, take_snoc Hx2.out, Hsm.out, he])
          clear he
          rw [d1]
          go_wp2
          go_roundw
          case rel => exact ⟨k + 1, by have := hl1.out; omega, by go_num, Hn.out, HB2.out⟩
          case measure => simp [Go.RowKit.intOf]; omega
        · have d1 : decide (m1 = m2) = false := decide_eq_false he
          have Hn := Lib.hid (show names l1 ≠ names l2 from fun e => by
            have h := Hx1.out
            rw [e, Hx2.out] at h
            injection h with h
            exact he h.symm)
          clear he
          rw [d1]
          go_wp2
          go_ret
          exact ⟨by rw [decide_eq_false Hn.out]; rfl, HB2.out⟩
      · obtain rfl : k = n := by have := hl1.out; omega
        have He := Lib.hid (show names l1 = names l2 by
          have h := Hsm.out
          rw [List.take_of_length_le (by rw [names_len]; have := hl1.out; omega), List.take_of_length_le (by rw [names_len]; have := hl2.out; omega)] at h
          exact h)
        go_wp2
        go_ret
        exact ⟨by rw [decide_eq_true He.out]; rfl, HB.out⟩
  · have Hn := Lib.hid (show names l1 ≠ names l2 from fun e => hnm (by rw [← hl1.out, ← hl2.out, ← names_len l1, e, names_len]))
    have hni : decide ((n : Int) = (m : Int)) = false := by simp; omega
    clear h1 h2 hl1 hl2 hs
    go_enter Try.func14, Try.ntmps14
    go_wp2
    go_ret
    exact ⟨by rw [decide_eq_false Hn.out]; rfl, Below.refl _ _⟩
end Go.Proofs.Ytgkhjmdghmpfcaa

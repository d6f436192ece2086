/-
  Package chunk: Check: a manifest is right, or is not: contract.
-/
import Derived.Test.YtjncmfjikoepgaaChCk
namespace Go.Proofs.Ytjncmfjikoepgaa
open Go.RowKit

def rulesV : Array Value := #[.func (.func 41) #[] #[], .func (.func 42) #[] #[], .func (.func 43) #[] #[]]
set_option maxHeartbeats 400000 in
theorem rules_any (w : World) : Calls Try.prog 31 #[] w fun e w' => e = .returned (.slice (some ⟨w.heap.size, 0, none⟩) 3 3) ∧ w' = w.alloc (.cells rulesV 58) := by
  unfold rulesV
  go_enter Try.func31, Try.ntmps31
  go_wp2
  go_ret
  exact ⟨rfl, rfl⟩
/-- What a call that answers an error's number, or 0, says. -/
def TellsE (w : World) (b : Bool) (e : Ending) (w' : World) : Prop := ∃ r : Int, e = .returned (.int .i64 r) ∧ ((b = true ∧ r = 0) ∨ (b = false ∧ r = 100)) ∧ Below w.heap.size w w'
/-- What the rules ahead of the j-th say. -/
def AheadM (n : Int) (z : List Int) (j : Nat) : Prop := (1 ≤ j → 0 ≤ n ∧ n ≤ 65536) ∧ (2 ≤ j → z.length = cnt n.toNat) ∧ (3 ≤ j → SumsM z)
set_option maxRecDepth 20000 in
set_option maxHeartbeats 1000000 in
theorem check_any (n : Int) (A : Option Addr) (k c : Nat) (z : List Int) (w : World) (hr : RdV w A k (ivs z)) (hk : k ≤ 1000000000) :
    Calls Try.prog 15 #[.agg #[.int .i64 n, .slice A k c]] w (TellsE w (decide (RightM n z))) := by
  obtain ⟨b, hb⟩ : ∃ b, b = decide (RightM n z) := ⟨_, rfl⟩
  rw [← hb]
  have HD := Lib.hid hb
  clear hb
  have hl : z.length = k := by have := hr.len; rwa [ivs_length] at this
  have hB : Below w.heap.size w (w.alloc (.cells #[.int .i64 n, .slice A k c] 24)) := (Below.refl _ _).alloc (Nat.le_refl _) _
  have hK := Whole.new w #[.int .i64 n, .slice A k c] 24
  go_enter Try.func15, Try.ntmps15
  go_upto_region 1 with (fail)
  generalize w.alloc (.cells _ 24) = W at hB hK ⊢
  have hR := Whole.new W rulesV 58
  have hB2 := hB.alloc hB.size (.cells rulesV 58)
  have hK2 := hK.alloc (.cells rulesV 58)
  go_wp2_with (go_at_call 31; refine (rules_any W).mono ?_; rintro e w1 ⟨rfl, rfl⟩)
  obtain ⟨g, hg⟩ : ∃ g, g = W.heap.size := ⟨_, rfl⟩
  rw [← hg] at hR ⊢
  generalize W.alloc (.cells rulesV 58) = W2 at hR hB2 hK2 ⊢
  have HB := Lib.hid hB2
  have HK := Lib.hid hK2
  have HR := Lib.hid hR
  have Hr := Lib.hid hr
  have Hl := Lib.hid hl
  clear hB hK hR hr hl hB2 hK2 hg
  go_loopw [7] (fun i wr => ∃ j : Nat, j ≤ 3 ∧ i = .int .i64 (j : Int) ∧ Hid (AheadM n z j) ∧ Hid (Below W2.heap.size W2 wr)) (fun i _ => 3 - (intOf i).toNat)
  case atStart => exact ⟨0, by omega, rfl, Lib.hid ⟨fun h => by omega, fun h => by omega, fun h => by omega⟩, Lib.hid (Below.refl _ _)⟩
  case round =>
    obtain ⟨j, hj, rfl, hA, hbl⟩ := hrel
    have k0 := (HK.out.below hbl.out).cell 0
    have k1 := (HK.out.below hbl.out).cell 1
    have r0 := (HR.out.below hbl.out).cell 0
    have r1 := (HR.out.below hbl.out).cell 1
    have r2 := (HR.out.below hbl.out).cell 2
    simp only [rulesV, List.getElem?_cons_succ, List.getElem?_cons_zero] at k0 k1 r0 r1 r2
    have hend : ∀ w1, Below wr.heap.size wr w1 → Below w.heap.size w w1 := fun w1 h => HB.out.trans ((hbl.out.trans (h.mono hbl.out.size)).mono HB.out.size)
    have HE := Lib.hid hend
    clear hend
    rcases (by omega : j = 0 ∨ j = 1 ∨ j = 2 ∨ j = 3) with rfl | rfl | rfl | rfl
    · have HC := hasSize_any n (.slice A k c) wr
      unfold TellsB at HC
      by_cases hs : 0 ≤ n ∧ n ≤ 65536
      · rw [decide_eq_true hs] at HC
        have Hs := Lib.hid hs
        clear hs r1 r2
        go_wp2_with (go_at_call 41; refine HC.mono ?_; rintro e w1 ⟨rfl, hb1⟩)
        go_roundw
        case rel => exact ⟨1, by omega, rfl, Lib.hid ⟨fun _ => Hs.out, fun h => by omega, fun h => by omega⟩, Lib.hid (hbl.out.trans (hb1.mono hbl.out.size))⟩
        case measure => simp [intOf]
      · rw [decide_eq_false hs] at HC
        obtain rfl : b = false := HD.out.trans (decide_eq_false (fun h => hs h.1))
        clear hs r1 r2
        go_wp2_with (go_at_call 41; refine HC.mono ?_; rintro e w1 ⟨rfl, hb1⟩)
        go_ret
        exact ⟨100, rfl, .inr ⟨rfl, rfl⟩, HE.out _ hb1⟩
    · have hs := hA.out.1 (by omega)
      obtain ⟨m, rfl⟩ : ∃ m : Nat, n = (m : Int) := ⟨n.toNat, by omega⟩
      have HC := hasSums_any m A k c wr (by omega)
      unfold TellsB at HC
      by_cases hq : k = cnt m
      · rw [decide_eq_true hq] at HC
        have Hq := Lib.hid hq
        have Hs := Lib.hid hs
        clear hq hs r0 r2
        go_wp2_with (go_at_call 42; refine HC.mono ?_; rintro e w1 ⟨rfl, hb1⟩)
        go_roundw
        case rel => exact ⟨2, by omega, rfl, Lib.hid ⟨fun _ => Hs.out, fun _ => by rw [Hl.out, Hq.out, Int.toNat_natCast], fun h => by omega⟩, Lib.hid (hbl.out.trans (hb1.mono hbl.out.size))⟩
        case measure => simp [intOf]
      · rw [decide_eq_false hq] at HC
        obtain rfl : b = false := HD.out.trans (decide_eq_false (fun h => hq (by have := h.2.1; rw [Hl.out, Int.toNat_natCast] at this; exact this)))
        clear hq hs r0 r2
        go_wp2_with (go_at_call 42; refine HC.mono ?_; rintro e w1 ⟨rfl, hb1⟩)
        go_ret
        exact ⟨100, rfl, .inr ⟨rfl, rfl⟩, HE.out _ hb1⟩
    · have HC := sumsOnly_any (.int .i64 n) A k c z wr (Hr.out.below (HB.out.trans (hbl.out.mono HB.out.size))) hk
      unfold TellsB at HC
      by_cases hq : SumsM z
      · rw [decide_eq_true hq] at HC
        have Hq := Lib.hid hq
        clear hq r0 r1
        go_wp2_with (go_at_call 43; refine HC.mono ?_; rintro e w1 ⟨rfl, hb1⟩)
        go_roundw
        case rel => exact ⟨3, by omega, rfl, Lib.hid ⟨fun _ => hA.out.1 (by omega), fun _ => hA.out.2.1 (by omega), fun _ => Hq.out⟩, Lib.hid (hbl.out.trans (hb1.mono hbl.out.size))⟩
        case measure => simp [intOf]
      · rw [decide_eq_false hq] at HC
        obtain rfl : b = false := HD.out.trans (decide_eq_false (fun h => hq h.2.2))
        clear hq r0 r1
        go_wp2_with (go_at_call 43; refine HC.mono ?_; rintro e w1 ⟨rfl, hb1⟩)
        go_ret
        exact ⟨100, rfl, .inr ⟨rfl, rfl⟩, HE.out _ hb1⟩
    · obtain rfl : b = true := HD.out.trans (decide_eq_true ⟨hA.out.1 (by omega), hA.out.2.1 (by omega), hA.out.2.2 (by omega)⟩)
      clear r0 r1 r2 k0 k1
      go_wp2
      go_ret
      exact ⟨0, rfl, .inl ⟨rfl, rfl⟩, HE.out _ (Below.refl _ _)⟩
end Go.Proofs.Ytjncmfjikoepgaa

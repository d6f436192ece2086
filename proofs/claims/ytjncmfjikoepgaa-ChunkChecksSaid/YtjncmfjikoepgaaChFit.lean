/-
  Package chunk: fits, Fits: a piece fits in its place, or does not: contracts.
-/
import Derived.Test.YtjncmfjikoepgaaChCk2
import Derived.Lib.QuietBelow
namespace Go.Proofs.Ytjncmfjikoepgaa
open Go.RowKit

theorem tellsE_yes {r : Int} (h : (true = true ∧ r = 0) ∨ (true = false ∧ r = 100)) : r = 0 := by
  rcases h with ⟨_, h⟩ | ⟨h, _⟩
  · exact h
  · exact absurd h (by decide)
theorem tellsE_no {r : Int} (h : (false = true ∧ r = 0) ∨ (false = false ∧ r = 100)) : r = 100 := by
  rcases h with ⟨h, _⟩ | ⟨_, h⟩
  · exact absurd h (by decide)
  · exact h
theorem mixedP : Try.prog.follows .mixedOrders = true := by kernel_rfl
set_option maxRecDepth 20000 in
set_option maxHeartbeats 2000000 in
theorem fit_any (n : Nat) (A : Option Addr) (k c : Nat) (z : List Int) (i : Int) (p : ByteArray) (w : World) (hr : RdV w A k (ivs z)) (hk : k = cnt n) (hn : n ≤ 65536) :
    Calls Try.prog 32 #[.agg #[.int .i64 (n : Int), .slice A k c], .int .i64 i, .string p] w (TellsB w (decide (FitM n z i p))) := by
  obtain ⟨b, hb⟩ : ∃ b, b = decide (FitM n z i p) := ⟨_, rfl⟩
  rw [← hb]
  have HD := Lib.hid hb
  clear hb
  have hl : z.length = k := by have := hr.len; rwa [ivs_length] at this
  have hk8 : k ≤ 820 := by rw [hk]; exact cnt_le hn
  have Hk := Lib.hid hk
  clear hk
  have hB : Below w.heap.size w (w.alloc (.cells #[.int .i64 (n : Int), .slice A k c] 24)) := (Below.refl _ _).alloc (Nat.le_refl _) _
  have hK := Whole.new w #[.int .i64 (n : Int), .slice A k c] 24
  by_cases h0 : i < 0
  · obtain rfl : b = false := HD.out.trans (decide_eq_false (fun h => by have := h.1.1; omega))
    have d0 : decide (i < 0) = true := decide_eq_true h0
    go_enter Try.func32, Try.ntmps32
    go_wp2
    go_ret
    exact ⟨rfl, hB⟩
  have d0 : decide (i < 0) = false := decide_eq_false h0
  by_cases h1 : (k : Int) ≤ i
  · obtain rfl : b = false := HD.out.trans (decide_eq_false (fun h => by have := h.1.2; omega))
    have d1 : decide ((k : Int) ≤ i) = true := decide_eq_true h1
    go_enter Try.func32, Try.ntmps32
    go_wp2
    go_ret
    exact ⟨rfl, hB⟩
  have d1 : decide ((k : Int) ≤ i) = false := decide_eq_false h1
  obtain ⟨j, rfl⟩ : ∃ j : Nat, i = (j : Int) := ⟨i.toNat, by omega⟩
  have hj : j < k := by omega
  obtain ⟨g, off, u, rfl, _, hu, hc⟩ := (hr.below hB).cell hj
  obtain ⟨x, hx, rfl⟩ := ivs_get hu
  obtain ⟨e, he⟩ : ∃ e, e = pln n j := ⟨_, rfl⟩
  have he8 : e ≤ 80 := by rw [he]; exact pln_le n j
  have hj80 : j * 80 ≤ n := by have h := hj; rw [Hk.out] at h; exact Nat.le_of_lt (cnt_lt.1 h)
  have HL := fun V => length_any n j V (by omega) hj80
  rw [← he] at HL
  have HX := Lib.hid hx
  have HE := Lib.hid he
  have HLn := Lib.hid hl
  clear hx hu he hl hr
  go_enter Try.func32, Try.ntmps32
  go_upto_region 3 with (fail)
  generalize w.alloc (.cells _ 24) = W at hB hK hc ⊢
  have c0 := hK.cell 0
  have c1 := hK.cell 1
  simp only [List.getElem?_cons_succ, List.getElem?_cons_zero] at c0 c1
  have k0 := cell_regrown c0
  have k1 := cell_regrown c1
  have k2 := cell_regrown hc
  have HB := Lib.hid hB
  have mixed := mixedP
  have cL := fun dd os => Calls.regrown_of (w := W) (d := dd) (os := os) ((HL (Go.Sort.grow (redrawn W dd) os)).mono fun e w' ⟨h1, h2⟩ => ⟨h1, h2 ▸ Below.refl _ _⟩)
  by_cases hs : p.size = e
  · obtain ⟨m, hm⟩ : ∃ m, m = smv p := ⟨_, rfl⟩
    have HS := fun V => sumStr_any p V (by omega)
    rw [← hm] at HS
    have cS := fun dd os => Calls.regrown_of (w := W) (d := dd) (os := os) (HS (Go.Sort.grow (redrawn W dd) os))
    have hsz : ((p.size : Int) == (e : Int)) = true := by simp [hs]
    have hbx : ((m : Int) == x) = b := by
      rw [HD.out, Bool.eq_iff_iff, beq_iff_eq, decide_eq_true_iff]
      refine ⟨fun h => ⟨⟨by omega, by rw [HLn.out]; omega⟩, by rw [Int.toNat_natCast, hs, HE.out], by rw [Int.toNat_natCast, HX.out, ← h, hm]⟩, fun h => ?_⟩
      have h3 := h.2.2
      rw [Int.toNat_natCast, HX.out, ← hm] at h3
      injection h3 with h3
      exact h3.symm
    clear HL HS c0 c1 hc hm hs hK hB
    refine wp_region_quiet_below mixed (by kernel_rfl) ?_
    repeat (go_big_quiet_step (first | exact cL _ _ | exact cS _ _))
    refine wpQuiet_nil ?_
    intro _ hw'
    obtain ⟨⟨dq, osq⟩, rfl⟩ := hw'
    have bq := Lib.hid (HB.out.trans ((below_regrown W dq osq).mono HB.out.size))
    clear cL cS k0 k1 k2
    go_wp2
    go_ret
    exact ⟨rfl, bq.out⟩
  · have hsz : ((p.size : Int) == (e : Int)) = false := by rw [beq_eq_false_iff_ne]; omega
    obtain rfl : b = false := HD.out.trans (decide_eq_false (fun h => hs (by have := h.2.1; rwa [Int.toNat_natCast, ← HE.out] at this)))
    clear HL c0 c1 hc hs hK hB
    refine wp_region_quiet_below mixed (by kernel_rfl) ?_
    repeat (go_big_quiet_step (first | exact cL _ _))
    refine wpQuiet_nil ?_
    intro _ hw'
    obtain ⟨⟨dq, osq⟩, rfl⟩ := hw'
    have bq := Lib.hid (HB.out.trans ((below_regrown W dq osq).mono HB.out.size))
    clear cL k0 k1 k2
    go_wp2
    go_ret
    exact ⟨rfl, bq.out⟩
set_option maxRecDepth 20000 in
set_option maxHeartbeats 1000000 in
theorem fits_any (n : Int) (A : Option Addr) (k c : Nat) (z : List Int) (i : Int) (p : ByteArray) (w : World) (hr : RdV w A k (ivs z)) (hk : k ≤ 1000000000) :
    Calls Try.prog 17 #[.agg #[.int .i64 n, .slice A k c], .int .i64 i, .string p] w (TellsB w (decide (RightM n z ∧ FitM n.toNat z i p))) := by
  obtain ⟨b, hb⟩ : ∃ b, b = decide (RightM n z ∧ FitM n.toNat z i p) := ⟨_, rfl⟩
  rw [← hb]
  have HD := Lib.hid hb
  have hl : z.length = k := by have := hr.len; rwa [ivs_length] at this
  have hB : Below w.heap.size w (w.alloc (.cells #[.int .i64 n, .slice A k c] 24)) := (Below.refl _ _).alloc (Nat.le_refl _) _
  have hK := Whole.new w #[.int .i64 n, .slice A k c] 24
  have HC := check_any n A k c z _ (hr.below hB) hk
  by_cases hq : RightM n z
  · rw [decide_eq_true hq] at HC
    obtain ⟨m, rfl⟩ : ∃ m : Nat, n = (m : Int) := ⟨n.toNat, by have := hq.1; omega⟩
    have hm : m ≤ 65536 := by have := hq.1; omega
    have hkm : k = cnt m := by have := hq.2.1; rw [hl, Int.toNat_natCast] at this; exact this
    have HF := fun V (hV : Below w.heap.size w V) => fit_any m A k c z i p V (hr.below hV) hkm hm
    have hbf : decide (FitM m z i p) = b := by
      rw [hb, Bool.eq_iff_iff, decide_eq_true_iff, decide_eq_true_iff, Int.toNat_natCast]
      exact ⟨fun h => ⟨hq, h⟩, fun h => h.2⟩
    rw [hbf] at HF
    have HFH := Lib.hid HF
    have HB := Lib.hid hB
    have HKK := Lib.hid hK
    clear hb hl hq hkm HF hbf hr hB hK HD
    go_enter Try.func17, Try.ntmps17
    go_wp2_with (first | (go_at_call 15; refine HC.mono ?_; rintro e w1 ⟨r, rfl, hrr, hb1⟩; obtain rfl := tellsE_yes hrr; have k0 := (HKK.out.below hb1).cell 0; have k1 := (HKK.out.below hb1).cell 1; simp only [List.getElem?_cons_succ, List.getElem?_cons_zero] at k0 k1; clear HC hrr) | (go_at_call 32; refine (HFH.out _ (HB.out.trans (hb1.mono HB.out.size))).mono ?_; rintro e w2 ⟨rfl, hb2⟩))
    go_ret
    have q1 := HB.out.trans (hb1.mono HB.out.size)
    exact ⟨rfl, q1.trans (hb2.mono q1.size)⟩
  · rw [decide_eq_false hq] at HC
    obtain rfl : b = false := hb.trans (decide_eq_false (fun h => hq h.1))
    have HB := Lib.hid hB
    clear hb hl hq hr hB hK HD
    go_enter Try.func17, Try.ntmps17
    go_wp2_with (go_at_call 15; refine HC.mono ?_; rintro e w1 ⟨r, rfl, hrr, hb1⟩; obtain rfl := tellsE_no hrr)
    go_ret
    exact ⟨rfl, HB.out.trans (hb1.mono HB.out.size)⟩
end Go.Proofs.Ytjncmfjikoepgaa

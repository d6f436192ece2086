/-
  ViewsNext: the walk of the law.
-/
import Derived.Test.YtbfamijlaoopaaaVwLawC
namespace Go.Proofs.Ytbfamijlaoopaaa
open Go.RowKit
def NtRel (w : World) (v : Int) (j : Nat) (i : Value) (wr : World) : Prop := ∃ k : Nat, 1 ≤ k ∧ k ≤ j ∧ i = .int .i64 (v + (k : Int)) ∧ Below w.heap.size w wr
set_option maxHeartbeats 4000000 in
theorem viewsNext_walk (nodes view id : Int) (w : World) : Calls Try.prog 10 #[.int .i64 nodes, .int .i64 view, .int .i64 id] w (Holds w) := by
  have HA := Lib.hid asks_any
  have HB := Lib.hid (Below.refl w.heap.size w)
  have HX := Lib.hid (fun W => vnext_any nodes view id W)
  rcases nextV_spec nodes view id with hx | ⟨hn, hv, j, hj1, hj2, hx, hp, hno⟩
  · rw [hx] at HX
    clear hx
    go_enter Try.func10, Try.ntmps10
    go_wp2_with (first | (go_at_call 16; refine (HX.out _).mono ?_; rintro x W ⟨rfl, b⟩; have HB := Lib.hid (HB.out.trans (b.mono HB.out.size)); clear b) | (go_at_call 11; refine (HA.out _).mono ?_; rintro x W ⟨rfl, b⟩; have HB := Lib.hid (HB.out.trans (b.mono HB.out.size)); clear b))
    go_ret
    exact ⟨rfl, HB.out⟩
  · rw [hx] at HX
    obtain ⟨hv1, hv2⟩ := isV_iff.1 hv
    have hn7 : nodes ≤ 7 := by have := isN_cases hn; omega
    have HP := Lib.hid (fun W => vprim_any nodes (view + (j : Int)) W)
    rw [hp] at HP
    have HQ := Lib.hid (fun (k : Nat) W => vprim_any nodes (view + (k : Int)) W)
    have HNo := Lib.hid hno
    clear hx hn hv hp hno
    go_enter Try.func10, Try.ntmps10
    go_upto_region 6 with (first | (go_at_call 16; refine (HX.out _).mono ?_; rintro x W ⟨rfl, b⟩; have HB := Lib.hid (HB.out.trans (b.mono HB.out.size)); clear b) | (go_at_call 14; refine (HP.out _).mono ?_; rintro x W ⟨rfl, b⟩; have HB := Lib.hid (HB.out.trans (b.mono HB.out.size)); clear b))
    clear HX HP
    go_wp2
    go_loopw [8] (NtRel w view j) (fun i _ => (view + (j : Int) - Go.RowKit.intOf i).toNat)
    case atStart => exact ⟨1, Nat.le_refl _, hj1, rfl, HB.out⟩
    case round =>
      obtain ⟨k, hk1, hk, rfl, hb⟩ := hrel
      have HB := Lib.hid hb
      clear hb
      by_cases hlt : k < j
      · have hki : view + (k : Int) < view + (j : Int) := by omega
        have hne := HNo.out k hk1 hlt
        have HPr := Lib.hid (HQ.out k)
        generalize prim nodes (view + (k : Int)) = P at hne HPr
        have t1 : (P == id) = false := by simp [hne]
        have t2 : decide (P = id) = false := by simp [hne]
        clear hne
        go_wp2_with (go_at_call 14; refine (HPr.out _).mono ?_; rintro x W ⟨rfl, b⟩; have HB := Lib.hid (HB.out.trans (b.mono HB.out.size)); clear b)
        go_roundw
        case rel => exact ⟨k + 1, by omega, by omega, by first | rfl | go_num | (congr 1; omega), HB.out⟩
        case measure => simp [Go.RowKit.intOf]; omega
      · obtain rfl : k = j := by omega
        go_wp2_with (go_at_call 11; refine (HA.out _).mono ?_; rintro x W ⟨rfl, b⟩; have HB := Lib.hid (HB.out.trans (b.mono HB.out.size)); clear b)
        go_ret
        exact ⟨rfl, HB.out⟩
end Go.Proofs.Ytbfamijlaoopaaa

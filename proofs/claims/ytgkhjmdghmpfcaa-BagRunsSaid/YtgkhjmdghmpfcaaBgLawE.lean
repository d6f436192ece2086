/-
  BagRuns: the walk of the law.
-/
import Derived.Test.YtgkhjmdghmpfcaaBgRun
namespace Go.Proofs.Ytgkhjmdghmpfcaa
open Go.RowKit
set_option maxRecDepth 20000 in
set_option maxHeartbeats 4000000 in
theorem bagRuns_walk (most : Int) (A : Option Addr) (n c : Nat) (w : World) (hm : IsBops w A n) : Calls Try.prog 3 #[.int .i64 most, .slice A n c] w (Holds w) := by
  obtain ⟨ops, hr⟩ := hm
  have HL := large_any (c := c) hr
  have HR := Lib.hid hr
  have HN := Lib.hid hr.len
  clear hr
  by_cases hmo : most < 1 ∨ 200 < most
  · have HW := fun W => new_no most W hmo
    have HA := fun W => awake_any W
    by_cases h1 : most < 1
    · clear hmo
      go_enter Try.func3, Try.ntmps3
      go_wp2_with (first | (go_at_call 8; refine HL.mono ?_; rintro x W1 ⟨q, rfl, hq, b1⟩; have HF := Lib.hid b1; clear hq b1; cases q) | (go_at_call 9; refine (HW _).mono ?_; rintro x W2 ⟨rfl, rfl⟩) | (go_at_call 10; refine (HA _).mono ?_; rintro x W3 ⟨rfl, b3⟩; have HF3 := Lib.hid (HF.out.trans (b3.mono HF.out.size)); clear b3))
      all_goals
        go_ret
        first | exact ⟨rfl, HF3.out⟩ | exact ⟨rfl, HF.out⟩
    · have h2 : 200 < most := by omega
      clear hmo
      go_enter Try.func3, Try.ntmps3
      go_wp2_with (first | (go_at_call 8; refine HL.mono ?_; rintro x W1 ⟨q, rfl, hq, b1⟩; have HF := Lib.hid b1; clear hq b1; cases q) | (go_at_call 9; refine (HW _).mono ?_; rintro x W2 ⟨rfl, rfl⟩) | (go_at_call 10; refine (HA _).mono ?_; rintro x W3 ⟨rfl, b3⟩; have HF3 := Lib.hid (HF.out.trans (b3.mono HF.out.size)); clear b3))
      all_goals
        go_ret
        first | exact ⟨rfl, HF3.out⟩ | exact ⟨rfl, HF.out⟩
  · have h1 : ¬ (most < 1) := by omega
    have h2 : ¬ (200 < most) := by omega
    obtain ⟨room, rfl⟩ : ∃ room : Nat, most = (room : Int) := ⟨most.toNat, by omega⟩
    have hlo : 1 ≤ room := by omega
    have hhi : room ≤ 200 := by omega
    clear hmo
    go_enter Try.func3, Try.ntmps3
    go_upto_region 3 with (go_at_call 8; refine HL.mono ?_; rintro x W1 ⟨q, rfl, hq, b1⟩; have HF := Lib.hid b1; have HQ := Lib.hid hq; clear hq b1; cases q)
    · have hS : SmallB ops := by first | exact HQ.out rfl | exact HQ.out trivial
      have HS := Lib.hid hS
      have hN := new_yes (base := w.heap.size) room W1 hlo hhi HF.out.size
      clear HL HQ hS
      go_upto_region 9 with (go_at_call 9; refine hN.mono ?_; rintro x W2 ⟨rfl, hb2, b2⟩; have HB2 := Lib.hid (HF.out.trans (b2.mono HF.out.size)); have Hb2 := Lib.hid hb2; clear b2 hb2)
      obtain ⟨p, hp⟩ : ∃ p, p = W1.heap.size := ⟨_, rfl⟩
      have hC : CalAt W2 p w.heap.size room none 0 0 (.slice none 0 0) [] [] := ⟨by rw [hp]; exact Hb2.out, RdM.nil, Nat.le_refl _, rfl, (fun m hm => by cases hm), (fun b off e => by cases e), (fun q hq => by cases hq)⟩
      have HC0 := Lib.hid hC
      rw [← hp]
      clear hN Hb2 hC HF hp
      go_wp2_with fail
      go_loopw [7, 8] (RnRel w p room n) (fun _ i _ => n - (Go.RowKit.intOf i).toNat)
      case atStart => exact ⟨0, none, 0, 0, _, [], [], Nat.zero_le _, rfl, rfl, HC0.out, HB2.out⟩
      case round =>
        obtain ⟨j, A2, n2, c2, v2, d2, l2, hj, rfl, rfl, hC, hb⟩ := hrel
        by_cases hlt : j < n
        · obtain ⟨b, off, o, rfl, hbl, ho, hro, hco⟩ := (HR.out.below hb).get hlt
          have ld := load_op hco
          have hmo := List.mem_of_getElem? ho
          have hso := HS.out.2 o hmo
          have hcall := call_any hC o hso.1 hso.2 (fun W hW => RdM.below (HR.out.ops o hmo) (hb.trans hW))
          have hji : (j : Int) < (n : Int) := by omega
          have HBr := Lib.hid hb
          clear hb hC hro hco hmo hso ho hbl hj
          go_upto_region 13 with (first | (refine wpList_load_run ld rfl _ rfl rfl ?_) | (go_at_call 11; refine hcall.mono ?_; rintro x W3 ⟨A3, n3, c3, v3, d3, l3, rfl, hC3, b3⟩; have HC3 := Lib.hid hC3; have HB3 := Lib.hid (HBr.out.trans b3); clear hC3 b3))
          have hLen := len_any HC3.out.bag
          rw [HC3.out.len] at hLen
          have hch := rn_chain HC3.out
          unfold RnChain at hch
          have HAll := Lib.hid hch
          clear hch hcall ld HBr
          go_upto_region 16 with (go_at_call 12; refine hLen.mono ?_; rintro x W4 ⟨rfl, rfl⟩)
          go_wp2_with (first | (go_at_call 13; refine HAll.out.mono ?_; rintro x W5 ⟨v5, rfl, hra⟩; have HRa := Lib.hid hra; clear hra) | (go_at_call 14; refine HRa.out.mono ?_; rintro x W6 ⟨rfl, hov⟩; have HOv := Lib.hid hov; clear hov) | (go_at_call 15; refine HOv.out.mono ?_; rintro x W7 ⟨rfl, b7⟩; have HB7 := Lib.hid b7; clear b7))
          have hn60 : n ≤ 60 := by have h3 := HS.out.1; have h4 := HN.out; omega
          rw [show wrap64 ((j : Int) + 1) = ((j + 1 : Nat) : Int) by rw [wrap64_id (by omega) (by omega)]; omega]
          go_roundw
          case rel => exact ⟨j + 1, A3, n3, c3, v3, d3, l3, hlt, by go_num, rfl, HC3.out.below HB7.out, HB3.out.trans (HB7.out.mono HB3.out.size)⟩
          case measure => simp [Go.RowKit.intOf]; omega
        · obtain rfl : j = n := by omega
          have HA := awake_any wr
          have HB := Lib.hid hb
          clear hC hb hj hlt
          go_wp2_with (go_at_call 10; refine HA.mono ?_; rintro x W3 ⟨rfl, b3⟩; have HB3 := Lib.hid b3; clear b3)
          go_ret
          exact ⟨rfl, HB.out.trans (HB3.out.mono HB.out.size)⟩
    · go_ret
      exact ⟨rfl, HF.out⟩
end Go.Proofs.Ytgkhjmdghmpfcaa

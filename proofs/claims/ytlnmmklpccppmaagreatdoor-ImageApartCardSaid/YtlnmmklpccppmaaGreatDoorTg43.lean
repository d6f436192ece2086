/-
  The whole of some bytes is read, or nothing: whole at a heap, and GetHeap.
-/
import Derived.Test.YtlnmmklpccppmaaGreatDoorTg42
import Derived.Test.YtlnmmklpccppmaaGreatDoorTg36
import Derived.Test.YtlnmmklpccppmaaGreatDoorTg35
namespace Go.Proofs.YtlnmmklpccppmaaGreatDoor
open Go.RowKit
set_option maxHeartbeats 1000000 in
theorem catchH_panics (p q : Nat) (w : World) (t : TypeId) (pv : Value) (older : List PanicEntry) (a0 a1 a2 a3 a4 a5 a6 a7 x : Value) (hp : Whole w p 26 [a0, a1, a2, a3, a4, a5, a6, a7]) (hq : Whole w q 30 [x]) :
    CallsD Tryz.prog 79 #[.pointer (some ⟨p, 0, none⟩), .pointer (some ⟨q, 0, none⟩)] (.panicking ({ v := .iface t pv, recovered := false } :: older)) w fun e u' w' =>
      e = .returned (.tuple #[]) ∧ u' = .panicking ({ v := .iface t pv, recovered := true } :: older) ∧ Whole w' p 26 [.int .i64 0, .slice none 0 0, .int .i64 0, .int .i64 0, .int .i64 0, .int .i64 0, .int .i64 0, .slice none 0 0] ∧ Whole w' q 30 [.int .i64 60] ∧ ∀ B, B ≤ p → B ≤ q → Below B w w' := by
  refine callsD_of_wpS Tryz.func79 rfl fun c₀ cs hu => ?_
  apply wpS_seq
  apply wpS_region
  simp [wpOpsS, go_sem, recoverD, hu, Tryz.ntmps79, Exit.thenS]
  refine wpS_cond (t := true) (by simp [Act.eval, Array.replicate]) ?_
  simp only [if_true]
  refine wpS_of_wp ?_
  have hne : ¬ p = q := hp.ne hq (by decide)
  have hlp := hp.lt
  have hlq := hq.lt
  have b0 := hp.cell 0
  have z0 := hp.free 0
  have b1 := hp.cell 1
  have z1 := hp.free 1
  have b2 := hp.cell 2
  have z2 := hp.free 2
  have b3 := hp.cell 3
  have z3 := hp.free 3
  have b4 := hp.cell 4
  have z4 := hp.free 4
  have b5 := hp.cell 5
  have z5 := hp.free 5
  have b6 := hp.cell 6
  have z6 := hp.free 6
  have b7 := hp.cell 7
  have z7 := hp.free 7
  have c0 := hq.cell 0
  have y0 := hq.free 0
  show Code.wp _ _ _ { tmps := #[.pointer (some ⟨p, 0, none⟩), .pointer (some ⟨q, 0, none⟩), undef, .iface t pv, .bool true, undef], defers := [] } w
  go_wp2
  have KP := ((((((((hp.set 0 (.int .i64 0)).set 1 (.slice none 0 0)).set 2 (.int .i64 0)).set 3 (.int .i64 0)).set 4 (.int .i64 0)).set 5 (.int .i64 0)).set 6 (.int .i64 0)).set 7 (.slice none 0 0))
  have GP := (grown_trans (grown_trans (grown_trans (grown_trans (grown_trans (grown_trans (grown_trans (grown_set w p 0 (.int .i64 0)) (grown_set _ p 1 (.slice none 0 0))) (grown_set _ p 2 (.int .i64 0))) (grown_set _ p 3 (.int .i64 0))) (grown_set _ p 4 (.int .i64 0))) (grown_set _ p 5 (.int .i64 0))) (grown_set _ p 6 (.int .i64 0))) (grown_set _ p 7 (.slice none 0 0)))
  have KQ := (hq.grown GP (fun e => hne e.symm)).set 0 (.int .i64 60)
  refine ⟨rfl, _, rfl, .tuple #[], by simp [results, Tryz.results79], rfl, rfl, ?_, ?_, ?_⟩
  · exact ((KP.grown (grown_set _ q 0 _) hne).alloc _)
  · exact KQ.alloc _
  · intro B h1 h2
    have hs := GP.size
    have c1 := below_grown (Below.refl B w) GP (by omega) h1
    have c2 := below_grown c1 (grown_set _ q 0 (.int .i64 60)) (by omega) h2
    exact c2.alloc (by simp only [World.setCell, Array.size_modify]; omega) _
set_option maxHeartbeats 1000000 in
theorem catchH_idle (p q : Nat) (w : World) :
    CallsD Tryz.prog 79 #[.pointer (some ⟨p, 0, none⟩), .pointer (some ⟨q, 0, none⟩)] .returning w fun e u' w' => e = .returned (.tuple #[]) ∧ u' = .returning ∧ w' = w := by
  refine callsD_of_wpS Tryz.func79 rfl fun c₀ cs hu => ?_
  apply wpS_seq
  apply wpS_region
  simp [wpOpsS, go_sem, recoverD, hu, Tryz.ntmps79, Exit.thenS]
  refine wpS_cond (t := false) (by simp [Act.eval, Array.replicate]) ?_
  simp only [Bool.false_eq_true, if_false]
  refine wpS_of_wp (wp_skip ?_)
  cases c₀
  simp_all [bodyPostS, results, Tryz.results79]
/-- What GetHeap answers: a heap that the bytes are, in memory of its own, or none. -/
def GotH (w : World) (b : List UInt8) (e : Ending) (w' : World) : Prop :=
  Below w.heap.size w w' ∧ ((∃ H s os, e = .returned (.tuple #[hval H s, .int .i64 0]) ∧ OwnHp w' w.heap.size s os H ∧ GetsH b (some H)) ∨ (e = .returned (.tuple #[.agg zcs.toArray, .int .i64 60]) ∧ GetsH b none))
set_option maxHeartbeats 4000000 in
theorem wholeH_any (A : Option Addr) (n c : Nat) (b : List UInt8) (w : World) (hb : Rd w A n b) (hn : n ≤ 70368744177664) (hT : Tab w) :
    Calls Tryz.prog 43 #[.slice A n c, .func (.func 44) #[] #[]] w (GotH w b) := by
  have hmf : ∀ (fn : Fn) (first cap : Array Value) (w : World), (Instr.makeFunc fn first cap).run Tryz.prog w = .ok (.func fn first cap) w := fun _ _ _ _ => rfl
  have hTl := hT.lt
  go_enter_defers Tryz.func43, Tryz.ntmps43
  go_wp2_with fail
  have KP := (Whole.new w #[.int .i64 0, .slice none 0 0, .int .i64 0, .int .i64 0, .int .i64 0, .int .i64 0, .int .i64 0, .slice none 0 0] 26).alloc (.cells #[.int .i64 0] 30)
  have KQ := Whole.new (w.alloc (.cells #[.int .i64 0, .slice none 0 0, .int .i64 0, .int .i64 0, .int .i64 0, .int .i64 0, .int .i64 0, .slice none 0 0] 26)) #[.int .i64 0] 30
  rw [show (w.alloc (.cells #[.int .i64 0, .slice none 0 0, .int .i64 0, .int .i64 0, .int .i64 0, .int .i64 0, .int .i64 0, .slice none 0 0] 26)).heap.size = w.heap.size + 1 by simp] at KQ
  have B0 := ((Below.refl w.heap.size w).alloc (Nat.le_refl _) (.cells #[.int .i64 0, .slice none 0 0, .int .i64 0, .int .i64 0, .int .i64 0, .int .i64 0, .int .i64 0, .slice none 0 0] 26)).alloc (by simp) (.cells #[.int .i64 0] 30)
  generalize (w.alloc (.cells #[.int .i64 0, .slice none 0 0, .int .i64 0, .int .i64 0, .int .i64 0, .int .i64 0, .int .i64 0, .slice none 0 0] 26)).alloc (.cells #[.int .i64 0] 30) = W at KP KQ B0 ⊢
  refine (new_any A n c b W (hb.below B0) hn).mono ?_
  rintro e w1 ⟨g, rfl, hg, hgl, hr1, hb1⟩
  have KP1 := KP.below hb1
  have KQ1 := KQ.below hb1
  have B1 := B0.trans (hb1.mono B0.size)
  have hsz := KQ.lt
  clear KP KQ B0 hb1
  have Hmf := Lib.hid hmf
  dsimp only
  go_wp2_with fail
  have KT := Whole.new w1 #[.pointer (some ⟨g, 0, none⟩)] 83
  have KP2 := KP1.alloc (.cells #[.pointer (some ⟨g, 0, none⟩)] 83)
  have KQ2 := KQ1.alloc (.cells #[.pointer (some ⟨g, 0, none⟩)] 83)
  have R2 := hr1.alloc (.cells #[.pointer (some ⟨g, 0, none⟩)] 83)
  have B2 := B1.alloc B1.size (.cells #[.pointer (some ⟨g, 0, none⟩)] 83)
  have hW1 : w1.heap.size < (w1.alloc (.cells #[.pointer (some ⟨g, 0, none⟩)] 83)).heap.size := by simp
  generalize (w1.alloc (.cells #[.pointer (some ⟨g, 0, none⟩)] 83)) = W1 at KT KP2 KQ2 R2 B2 hW1 ⊢
  refine (rdHeap_any g b W1 R2 (hT.below B2) (by omega)).mono ?_
  rintro e w2 ⟨hg2, hm⟩
  have B3 : Below w.heap.size w w2 := below_grown B2 hg2 B2.size (by omega)
  have KP3 := KP2.grown hg2 (by omega)
  have KQ3 := KQ2.grown hg2 (by omega)
  have KT3 := KT.grown hg2 (by omega)
  have hT1 := KP1.lt
  have hT2 := KQ1.lt
  clear KT KP2 KQ2 R2 B2 hg2 KP1 KQ1 B1 hr1
  have HB := Lib.hid B3
  have HP := Lib.hid KP3
  have HQ := Lib.hid KQ3
  rcases hm with ⟨H, s, os, r, R, rfl, O2, hr2, hpr, hR, hHR⟩ | ⟨rfl, hbad⟩
  case inr =>
    have Hq := Lib.hid (show GetsH b none from by
      rcases hbad with h | ⟨R, r, h1, h2⟩
      · exact gets_none1 (g := gp) gp_right h
      · exact gets_none3 (g := gp) gp_right h1 h2)
    clear hbad B3 KP3 KQ3 KT3
    go_wp2
    refine leaves_cons (f := 79) (args := #[.pointer (some ⟨w.heap.size, 0, none⟩), .pointer (some ⟨w.heap.size + 1, 0, none⟩)]) (by simp) (by simp [go_sem]) ?_
    refine (catchH_panics _ _ _ _ _ [] _ _ _ _ _ _ _ _ _ HP.out HQ.out).mono ?_
    rintro e u' w'' ⟨rfl, rfl, hp, hq, hB⟩
    refine ⟨_, results_c3 rfl _ _ _ _ _ _ rfl rfl hp hq Tryz.underlying26 (by kernel_rfl), ?_⟩
    exact ⟨HB.out.trans (hB _ (Nat.le_refl _) (Nat.le_succ _)), .inr ⟨rfl, Hq.out⟩⟩
  case inl =>
    have Hpr := Lib.hid hpr
    have HR := Lib.hid hR
    have HHR := Lib.hid hHR
    clear hpr hR hHR
    obtain ⟨Ao, no, co, AF, nF, cF⟩ := s
    have G4 := (grown_trans (grown_trans (grown_trans (grown_trans (grown_trans (grown_trans (grown_trans (grown_set w2 w.heap.size 0 (.int .i64 H.od)) (grown_set _ w.heap.size 1 (.slice Ao no co))) (grown_set _ w.heap.size 2 (.int .i64 H.nx))) (grown_set _ w.heap.size 3 (.int .i64 (tget H 0)))) (grown_set _ w.heap.size 4 (.int .i64 (tget H 1)))) (grown_set _ w.heap.size 5 (.int .i64 (tget H 2)))) (grown_set _ w.heap.size 6 (.int .i64 (tget H 3)))) (grown_set _ w.heap.size 7 (.slice AF nF cF)))
    have K4 := ((((((((KP3.set 0 (.int .i64 H.od)).set 1 (.slice Ao no co)).set 2 (.int .i64 H.nx)).set 3 (.int .i64 (tget H 0))).set 4 (.int .i64 (tget H 1))).set 5 (.int .i64 (tget H 2))).set 6 (.int .i64 (tget H 3))).set 7 (.slice AF nF cF))
    have Q4 := KQ3.grown G4 (by omega)
    have T4 := KT3.grown G4 (by omega)
    have R4 := hr2.apart (KP3.noByte zcs_nob) (by omega : g ≠ w.heap.size) G4
    have B4 := below_grown B3 G4 B3.size (Nat.le_refl _)
    have O4 := O2.grownI G4 (by omega)
    have H4 := Lib.hid (And.intro K4 (And.intro Q4 (And.intro T4 (And.intro R4 (And.intro B4 O4)))))
    have p0 := KP3.cell 0
    have z0 := KP3.free 0
    have p1 := KP3.cell 1
    have z1 := KP3.free 1
    have p2 := KP3.cell 2
    have z2 := KP3.free 2
    have p3 := KP3.cell 3
    have z3 := KP3.free 3
    have p4 := KP3.cell 4
    have z4 := KP3.free 4
    have p5 := KP3.cell 5
    have z5 := KP3.free 5
    have p6 := KP3.cell 6
    have z6 := KP3.free 6
    have p7 := KP3.cell 7
    have z7 := KP3.free 7
    have t0 : w2.cell? ⟨w1.heap.size, 0, none⟩ = some (.pointer (some ⟨g, 0, none⟩)) := KT3.cell 0
    have hne : ¬ w.heap.size = w1.heap.size := by omega
    clear K4 G4 Q4 T4 R4 B4 O4 KP3 KQ3 KT3 B3 hr2 O2
    simp only [hval, hcs]
    go_wp2_with fail
    generalize (((((((w2.setCell ⟨w.heap.size, 0, none⟩ (.int .i64 H.od)).setCell ⟨w.heap.size, 1, none⟩ (.slice Ao no co)).setCell ⟨w.heap.size, 2, none⟩ (.int .i64 H.nx)).setCell ⟨w.heap.size, 3, none⟩ (.int .i64 (tget H 0))).setCell ⟨w.heap.size, 4, none⟩ (.int .i64 (tget H 1))).setCell ⟨w.heap.size, 5, none⟩ (.int .i64 (tget H 2))).setCell ⟨w.heap.size, 6, none⟩ (.int .i64 (tget H 3))).setCell ⟨w.heap.size, 7, none⟩ (.slice AF nF cF) = W4 at H4 ⊢
    obtain ⟨K4, Q4, T4, R4, B4, O4⟩ := H4.out
    clear p0 z0 p1 z1 p2 z2 p3 z3 p4 z4 p5 z5 p6 z6 p7 z7 t0
    refine (left_any g r W4 R4).mono ?_
    rintro e w5 ⟨rfl, rfl⟩
    cases r with
    | cons r0 rs =>
      have hl : decide (0 < ((r0 :: rs).length : Int)) = true := by simp
      have hl2 : (0 : Int) < ((r0 :: rs).length : Int) := by simp
      have Hq := Lib.hid (gets_none2 (g := gp) gp_right Hpr.out (by simp))
      generalize ((r0 :: rs).length : Int) = rl at *
      clear K4 Q4 T4 R4 B4 O4
      go_wp2_with fail
      refine (giveUp_any _).mono ?_
      rintro e w6 ⟨rfl, rfl⟩
      go_wp2
      obtain ⟨K4, Q4, T4, R4, B4, O4⟩ := H4.out
      refine leaves_cons (f := 79) (args := #[.pointer (some ⟨w.heap.size, 0, none⟩), .pointer (some ⟨w.heap.size + 1, 0, none⟩)]) (by simp) (by simp [go_sem]) ?_
      refine (catchH_panics _ _ _ _ _ [] _ _ _ _ _ _ _ _ _ K4 Q4).mono ?_
      rintro e u' w'' ⟨rfl, rfl, hp, hq, hB⟩
      refine ⟨_, results_c3 rfl _ _ _ _ _ _ rfl rfl hp hq Tryz.underlying26 (by kernel_rfl), ?_⟩
      exact ⟨B4.trans (hB _ (Nat.le_refl _) (Nat.le_succ _)), .inr ⟨rfl, Hq.out⟩⟩
    | nil =>
      have Hq := Lib.hid (show GetsH b (some H) from by
        rw [HHR.out]
        exact gets_some (g := gp) Hpr.out (by rw [← HHR.out]; exact HR.out))
      have k0 : W4.cell? ⟨w.heap.size, 0, none⟩ = some (.int .i64 H.od) := K4.cell 0
      have z0 := K4.free 0
      have k1 : W4.cell? ⟨w.heap.size, 1, none⟩ = some (.slice Ao no co) := K4.cell 1
      have z1 := K4.free 1
      have k2 : W4.cell? ⟨w.heap.size, 2, none⟩ = some (.int .i64 H.nx) := K4.cell 2
      have z2 := K4.free 2
      have k3 : W4.cell? ⟨w.heap.size, 3, none⟩ = some (.int .i64 (tget H 0)) := K4.cell 3
      have z3 := K4.free 3
      have k4 : W4.cell? ⟨w.heap.size, 4, none⟩ = some (.int .i64 (tget H 1)) := K4.cell 4
      have z4 := K4.free 4
      have k5 : W4.cell? ⟨w.heap.size, 5, none⟩ = some (.int .i64 (tget H 2)) := K4.cell 5
      have z5 := K4.free 5
      have k6 : W4.cell? ⟨w.heap.size, 6, none⟩ = some (.int .i64 (tget H 3)) := K4.cell 6
      have z6 := K4.free 6
      have k7 : W4.cell? ⟨w.heap.size, 7, none⟩ = some (.slice AF nF cF) := K4.cell 7
      have z7 := K4.free 7
      have q0 := Q4.cell 0
      have y0 := Q4.free 0
      have G5 := (grown_trans (grown_trans (grown_trans (grown_trans (grown_trans (grown_trans (grown_trans (grown_set W4 w.heap.size 0 (.int .i64 H.od)) (grown_set _ w.heap.size 1 (.slice Ao no co))) (grown_set _ w.heap.size 2 (.int .i64 H.nx))) (grown_set _ w.heap.size 3 (.int .i64 (tget H 0)))) (grown_set _ w.heap.size 4 (.int .i64 (tget H 1)))) (grown_set _ w.heap.size 5 (.int .i64 (tget H 2)))) (grown_set _ w.heap.size 6 (.int .i64 (tget H 3)))) (grown_set _ w.heap.size 7 (.slice AF nF cF)))
      have K5 := ((((((((K4.set 0 (.int .i64 H.od)).set 1 (.slice Ao no co)).set 2 (.int .i64 H.nx)).set 3 (.int .i64 (tget H 0))).set 4 (.int .i64 (tget H 1))).set 5 (.int .i64 (tget H 2))).set 6 (.int .i64 (tget H 3))).set 7 (.slice AF nF cF))
      have Q5 := (Q4.grown G5 (by omega)).set 0 (.int .i64 0)
      have K6 := K5.grown (grown_set _ (w.heap.size + 1) 0 (.int .i64 0)) (by omega)
      have B5 := below_grown (below_grown B4 G5 B4.size (Nat.le_refl _)) (grown_set _ (w.heap.size + 1) 0 (.int .i64 0)) (by have := G5.size; have := B4.size; omega) (Nat.le_succ _)
      have O5 := ((O4.grownI G5 (by omega)).grownI (grown_set _ (w.heap.size + 1) 0 (.int .i64 0)) (by omega)).mono (base' := w.heap.size) (by omega)
      have H5 := Lib.hid (And.intro K6 (And.intro Q5 (And.intro B5 O5)))
      clear K4 Q4 T4 R4 B4 O4 K5 G5 Q5 K6 B5 O5
      go_wp2
      obtain ⟨K6, Q5, B5, O5⟩ := H5.out
      refine leaves_cons (f := 79) (args := #[.pointer (some ⟨w.heap.size, 0, none⟩), .pointer (some ⟨w.heap.size + 1, 0, none⟩)]) (by simp) (by simp [go_sem]) ?_
      refine (catchH_idle _ _ _).mono ?_
      rintro e u' w'' ⟨rfl, rfl, rfl⟩
      refine ⟨_, results_c3 rfl _ _ _ _ _ _ rfl rfl K6 Q5 Tryz.underlying26 (by kernel_rfl), ?_⟩
      exact ⟨B5, .inl ⟨H, ⟨Ao, no, co, AF, nF, cF⟩, os, rfl, O5, Hq.out⟩⟩
end Go.Proofs.YtlnmmklpccppmaaGreatDoor

/-
  The whole of some bytes is read, or nothing: the deferred function that recovers, and whole, at an operation.
-/
import Derived.Test.YtlnmmklpccppmaaImGetOp
namespace Go.Proofs.Ytlnmmklpccppmaa
open Go.RowKit

set_option maxHeartbeats 1000000 in
theorem catchO_panics (p q : Nat) (w : World) (t : TypeId) (pv : Value) (older : List PanicEntry) (a0 a1 a2 a3 a4 a5 a6 x : Value) (hp : Whole w p 24 [a0, a1, a2, a3, a4, a5, a6]) (hq : Whole w q 27 [x]) :
    CallsD Try.prog 13 #[.pointer (some ⟨p, 0, none⟩), .pointer (some ⟨q, 0, none⟩)] (.panicking ({ v := .iface t pv, recovered := false } :: older)) w fun e u' w' =>
      e = .returned (.tuple #[]) ∧ u' = .panicking ({ v := .iface t pv, recovered := true } :: older) ∧ Whole w' p 24 [.int .i64 0, .int .i64 0, .int .i64 0, .int .i64 0, .int .i64 0, .int .i64 0, .int .i64 0] ∧ Whole w' q 27 [.int .i64 60] ∧ ∀ B, B ≤ p → B ≤ q → Below B w w' := by
  refine callsD_of_wpS Try.func13 rfl fun c₀ cs hu => ?_
  apply wpS_seq
  apply wpS_region
  simp [wpOpsS, go_sem, recoverD, hu, Try.ntmps13, Exit.thenS]
  refine wpS_cond (t := true) (by simp [Act.eval, Array.replicate]) ?_
  simp only [if_true]
  refine wpS_of_wp ?_
  have hne : ¬ p = q := hp.ne hq (by decide)
  have hlp := hp.lt
  have hlq := hq.lt
  have b0 := hp.cell 0
  have b1 := hp.cell 1
  have b2 := hp.cell 2
  have b3 := hp.cell 3
  have b4 := hp.cell 4
  have b5 := hp.cell 5
  have b6 := hp.cell 6
  have z0 := hp.free 0
  have z1 := hp.free 1
  have z2 := hp.free 2
  have z3 := hp.free 3
  have z4 := hp.free 4
  have z5 := hp.free 5
  have z6 := hp.free 6
  have c0 := hq.cell 0
  have y0 := hq.free 0
  have K1 := hp.alloc (.cells #[.int .i64 0, .int .i64 0, .int .i64 0, .int .i64 0, .int .i64 0, .int .i64 0, .int .i64 0] 24)
  have Q1 := hq.alloc (.cells #[.int .i64 0, .int .i64 0, .int .i64 0, .int .i64 0, .int .i64 0, .int .i64 0, .int .i64 0] 24)
  show Code.wp _ _ _ { tmps := #[.pointer (some ⟨p, 0, none⟩), .pointer (some ⟨q, 0, none⟩), undef, .iface t pv, .bool true, undef], defers := [] } w
  go_wp2
  have KP := (((((((hp.set 0 (.int .i64 0)).set 1 (.int .i64 0)).set 2 (.int .i64 0)).set 3 (.int .i64 0)).set 4 (.int .i64 0)).set 5 (.int .i64 0)).set 6 (.int .i64 0))
  have GP := grown_sets (wr := w) (b := p) (.int .i64 0) (.int .i64 0) (.int .i64 0) (.int .i64 0) (.int .i64 0) (.int .i64 0) (.int .i64 0)
  have KQ := (hq.grown GP (fun e => hne e.symm)).set 0 (.int .i64 60)
  refine ⟨rfl, _, rfl, .tuple #[], by simp [results, Try.results13], rfl, rfl, ?_, ?_, ?_⟩
  · exact ((KP.grown (grown_set _ q 0 _) hne).alloc _)
  · exact KQ.alloc _
  · intro B h1 h2
    have hs := GP.size
    have c1 := below_grown (Below.refl B w) GP (by omega) h1
    have c2 := below_grown c1 (grown_set _ q 0 (.int .i64 60)) (by omega) h2
    exact c2.alloc (by simp only [World.setCell, Array.size_modify]; omega) _
set_option maxHeartbeats 1000000 in
theorem catchO_idle (p q : Nat) (w : World) :
    CallsD Try.prog 13 #[.pointer (some ⟨p, 0, none⟩), .pointer (some ⟨q, 0, none⟩)] .returning w fun e u' w' => e = .returned (.tuple #[]) ∧ u' = .returning ∧ w' = w := by
  refine callsD_of_wpS Try.func13 rfl fun c₀ cs hu => ?_
  apply wpS_seq
  apply wpS_region
  simp [wpOpsS, go_sem, recoverD, hu, Try.ntmps13, Exit.thenS]
  refine wpS_cond (t := false) (by simp [Act.eval, Array.replicate]) ?_
  simp only [Bool.false_eq_true, if_false]
  refine wpS_of_wp (wp_skip ?_)
  cases c₀
  simp_all [bodyPostS, results, Try.results13]

theorem whole_none {α β : Type} {o : Option (α × List UInt8)} (h : o = none) {f : α → β} {z : β} : (match o with | some (x, []) => f x | _ => z) = z := by subst h; rfl
def zeroO : Value := .agg #[.int .i64 0, .int .i64 0, .int .i64 0, .int .i64 0, .int .i64 0, .int .i64 0, .int .i64 0]
/-- The whole of the bytes is read, or nothing. -/
def WholeO (w : World) (b : List UInt8) (e : Ending) (w' : World) : Prop :=
  Below w.heap.size w w' ∧ match prep pint 7 b with
    | some (vs, []) => e = .returned (.tuple #[.agg (intvs vs).toArray, .int .i64 0])
    | _ => e = .returned (.tuple #[zeroO, .int .i64 60])
set_option maxHeartbeats 2000000 in
theorem wholeO_any (A : Option Addr) (n c : Nat) (b : List UInt8) (w : World) (hb : Rd w A n b) (hn : n ≤ 70368744177664) :
    Calls Try.prog 9 #[.slice A n c, .func (.func 10) #[] #[]] w (WholeO w b) := by
  have hmf : ∀ (fn : Fn) (first cap : Array Value) (w : World), (Instr.makeFunc fn first cap).run Try.prog w = .ok (.func fn first cap) w := fun _ _ _ _ => rfl
  go_enter_defers Try.func9, Try.ntmps9
  go_wp2_with fail
  have KP := (Whole.new w #[.int .i64 0, .int .i64 0, .int .i64 0, .int .i64 0, .int .i64 0, .int .i64 0, .int .i64 0] 24).alloc (.cells #[.int .i64 0] 27)
  have KQ := Whole.new (w.alloc (.cells #[.int .i64 0, .int .i64 0, .int .i64 0, .int .i64 0, .int .i64 0, .int .i64 0, .int .i64 0] 24)) #[.int .i64 0] 27
  rw [show (w.alloc (.cells #[.int .i64 0, .int .i64 0, .int .i64 0, .int .i64 0, .int .i64 0, .int .i64 0, .int .i64 0] 24)).heap.size = w.heap.size + 1 by simp] at KQ
  have B0 := ((Below.refl w.heap.size w).alloc (Nat.le_refl _) (.cells #[.int .i64 0, .int .i64 0, .int .i64 0, .int .i64 0, .int .i64 0, .int .i64 0, .int .i64 0] 24)).alloc (by simp) (.cells #[.int .i64 0] 27)
  generalize (w.alloc (.cells #[.int .i64 0, .int .i64 0, .int .i64 0, .int .i64 0, .int .i64 0, .int .i64 0, .int .i64 0] 24)).alloc (.cells #[.int .i64 0] 27) = W at KP KQ B0 ⊢
  refine (new_any A n c b W (hb.below B0) hn).mono ?_
  rintro e w1 ⟨g, rfl, hg, hgl, hr1, hb1⟩
  have KP1 := KP.below hb1
  have KQ1 := KQ.below hb1
  have B1 := B0.trans (hb1.mono B0.size)
  have hsz := KQ.lt
  clear KP KQ B0 hb1
  have Hmf := Lib.hid hmf
  dsimp only
  go_wp2_with fail
  have KT := Whole.new w1 #[.pointer (some ⟨g, 0, none⟩)] 39
  have KP2 := KP1.alloc (.cells #[.pointer (some ⟨g, 0, none⟩)] 39)
  have KQ2 := KQ1.alloc (.cells #[.pointer (some ⟨g, 0, none⟩)] 39)
  have R2 := hr1.alloc (.cells #[.pointer (some ⟨g, 0, none⟩)] 39)
  have B2 := B1.alloc B1.size (.cells #[.pointer (some ⟨g, 0, none⟩)] 39)
  generalize (w1.alloc (.cells #[.pointer (some ⟨g, 0, none⟩)] 39)) = W1 at KT KP2 KQ2 R2 B2 ⊢
  refine (rdOp_any g b W1 R2).mono ?_
  rintro e w2 ⟨hg2, hm⟩
  have B3 : Below w.heap.size w w2 := below_grown B2 hg2 B2.size (by omega)
  have KP3 := KP2.grown hg2 (by omega)
  have KQ3 := KQ2.grown hg2 (by omega)
  have KT3 := KT.grown hg2 (by omega)
  have hT := KP1.lt
  have hT2 := KQ1.lt
  clear KT KP2 KQ2 R2 B2 hg2 KP1 KQ1 B1 hr1
  have HB := Lib.hid B3
  have HP := Lib.hid KP3
  have HQ := Lib.hid KQ3
  cases hq : prep pint 7 b with
  | none =>
    rw [hq] at hm
    subst hm
    have Hq := Lib.hid hq
    clear hq B3 KP3 KQ3 KT3
    go_wp2
    refine leaves_cons (f := 13) (args := #[.pointer (some ⟨w.heap.size, 0, none⟩), .pointer (some ⟨w.heap.size + 1, 0, none⟩)]) (by simp) (by simp [go_sem]) ?_
    refine (catchO_panics _ _ _ _ _ [] _ _ _ _ _ _ _ _ HP.out HQ.out).mono ?_
    rintro e u' w'' ⟨rfl, rfl, hp, hq, hB⟩
    refine ⟨_, results_c3 rfl _ _ _ _ _ _ rfl rfl hp hq Try.underlying24 (by kernel_rfl), ?_⟩
    exact ⟨HB.out.trans (hB _ (Nat.le_refl _) (Nat.le_succ _)), by rw [Hq.out]; rfl⟩
  | some q =>
    obtain ⟨vs, r⟩ := q
    rw [hq] at hm
    obtain ⟨v, rfl, rfl, hr2⟩ := hm
    have hlen := prep_len hq
    have Hq := Lib.hid hq
    clear hq
    match vs, hlen with
    | [v0, v1, v2, v3, v4, v5, v6], _ =>
      have K4 := (((((((KP3.set 0 (.int .i64 v0)).set 1 (.int .i64 v1)).set 2 (.int .i64 v2)).set 3 (.int .i64 v3)).set 4 (.int .i64 v4)).set 5 (.int .i64 v5)).set 6 (.int .i64 v6))
      have G4 := grown_sets (wr := w2) (b := w.heap.size) (.int .i64 v0) (.int .i64 v1) (.int .i64 v2) (.int .i64 v3) (.int .i64 v4) (.int .i64 v5) (.int .i64 v6)
      have Q4 := KQ3.grown G4 (by omega)
      have T4 := KT3.grown G4 (by omega)
      have R4 := hrdr7 hr2 (KP3.noByte (ints_noByte [] 7)) (by omega : g ≠ w.heap.size) (.int .i64 v0) (.int .i64 v1) (.int .i64 v2) (.int .i64 v3) (.int .i64 v4) (.int .i64 v5) (.int .i64 v6)
      have B4 := below_grown B3 G4 B3.size (Nat.le_refl _)
      have H4 := Lib.hid (And.intro K4 (And.intro Q4 (And.intro T4 (And.intro R4 B4))))
      have p0 := KP3.cell 0
      have p1 := KP3.cell 1
      have p2 := KP3.cell 2
      have p3 := KP3.cell 3
      have p4 := KP3.cell 4
      have p5 := KP3.cell 5
      have p6 := KP3.cell 6
      have z0 := KP3.free 0
      have z1 := KP3.free 1
      have z2 := KP3.free 2
      have z3 := KP3.free 3
      have z4 := KP3.free 4
      have z5 := KP3.free 5
      have z6 := KP3.free 6
      have t0 : w2.cell? ⟨w1.heap.size, 0, none⟩ = some (.pointer (some ⟨g, 0, none⟩)) := KT3.cell 0
      have hne : ¬ w.heap.size = w1.heap.size := by omega
      clear K4 G4 Q4 T4 R4 B4 KP3 KQ3 KT3 B3 hr2
      dsimp only [intvs, List.map_cons, List.map_nil]
      go_wp2_with fail
      generalize ((((((w2.setCell ⟨w.heap.size, 0, none⟩ (.int .i64 v0)).setCell ⟨w.heap.size, 1, none⟩ (.int .i64 v1)).setCell ⟨w.heap.size, 2, none⟩ (.int .i64 v2)).setCell ⟨w.heap.size, 3, none⟩ (.int .i64 v3)).setCell ⟨w.heap.size, 4, none⟩ (.int .i64 v4)).setCell ⟨w.heap.size, 5, none⟩ (.int .i64 v5)).setCell ⟨w.heap.size, 6, none⟩ (.int .i64 v6) = W4 at H4 ⊢
      obtain ⟨K4, Q4, T4, R4, B4⟩ := H4.out
      clear p0 p1 p2 p3 p4 p5 p6 z0 z1 z2 z3 z4 z5 z6 t0
      refine (left_any g r W4 R4).mono ?_
      rintro e w5 ⟨rfl, rfl⟩
      cases r with
      | cons r0 rs =>
        have hl : decide (0 < ((r0 :: rs).length : Int)) = true := by simp
        have hl2 : (0 : Int) < ((r0 :: rs).length : Int) := by simp
        generalize ((r0 :: rs).length : Int) = rl at *
        clear K4 Q4 T4 R4 B4
        go_wp2_with fail
        refine (giveUp_any _).mono ?_
        rintro e w6 ⟨rfl, rfl⟩
        go_wp2
        obtain ⟨K4, Q4, T4, R4, B4⟩ := H4.out
        refine leaves_cons (f := 13) (args := #[.pointer (some ⟨w.heap.size, 0, none⟩), .pointer (some ⟨w.heap.size + 1, 0, none⟩)]) (by simp) (by simp [go_sem]) ?_
        refine (catchO_panics _ _ _ _ _ [] _ _ _ _ _ _ _ _ K4 Q4).mono ?_
        rintro e u' w'' ⟨rfl, rfl, hp, hq, hB⟩
        refine ⟨_, results_c3 rfl _ _ _ _ _ _ rfl rfl hp hq Try.underlying24 (by kernel_rfl), ?_⟩
        exact ⟨B4.trans (hB _ (Nat.le_refl _) (Nat.le_succ _)), by rw [Hq.out]; rfl⟩
      | nil =>
        have k0 : W4.cell? ⟨w.heap.size, 0, none⟩ = some (.int .i64 v0) := K4.cell 0
        have k1 : W4.cell? ⟨w.heap.size, 1, none⟩ = some (.int .i64 v1) := K4.cell 1
        have k2 : W4.cell? ⟨w.heap.size, 2, none⟩ = some (.int .i64 v2) := K4.cell 2
        have k3 : W4.cell? ⟨w.heap.size, 3, none⟩ = some (.int .i64 v3) := K4.cell 3
        have k4 : W4.cell? ⟨w.heap.size, 4, none⟩ = some (.int .i64 v4) := K4.cell 4
        have k5 : W4.cell? ⟨w.heap.size, 5, none⟩ = some (.int .i64 v5) := K4.cell 5
        have k6 : W4.cell? ⟨w.heap.size, 6, none⟩ = some (.int .i64 v6) := K4.cell 6
        have z0 := K4.free 0
        have z1 := K4.free 1
        have z2 := K4.free 2
        have z3 := K4.free 3
        have z4 := K4.free 4
        have z5 := K4.free 5
        have z6 := K4.free 6
        have q0 := Q4.cell 0
        have y0 := Q4.free 0
        have K5 := (((((((K4.set 0 (.int .i64 v0)).set 1 (.int .i64 v1)).set 2 (.int .i64 v2)).set 3 (.int .i64 v3)).set 4 (.int .i64 v4)).set 5 (.int .i64 v5)).set 6 (.int .i64 v6))
        have G5 := grown_sets (wr := W4) (b := w.heap.size) (.int .i64 v0) (.int .i64 v1) (.int .i64 v2) (.int .i64 v3) (.int .i64 v4) (.int .i64 v5) (.int .i64 v6)
        have Q5 := (Q4.grown G5 (by omega)).set 0 (.int .i64 0)
        have K6 := K5.grown (grown_set _ (w.heap.size + 1) 0 (.int .i64 0)) (by omega)
        have B5 := below_grown (below_grown B4 G5 B4.size (Nat.le_refl _)) (grown_set _ (w.heap.size + 1) 0 (.int .i64 0)) (by have := G5.size; have := B4.size; omega) (Nat.le_succ _)
        have H5 := Lib.hid (And.intro K6 (And.intro Q5 B5))
        clear K4 Q4 T4 R4 B4 K5 G5 Q5 K6 B5
        go_wp2
        obtain ⟨K6, Q5, B5⟩ := H5.out
        refine leaves_cons (f := 13) (args := #[.pointer (some ⟨w.heap.size, 0, none⟩), .pointer (some ⟨w.heap.size + 1, 0, none⟩)]) (by simp) (by simp [go_sem]) ?_
        refine (catchO_idle _ _ _).mono ?_
        rintro e u' w'' ⟨rfl, rfl, rfl⟩
        refine ⟨_, results_c3 rfl _ _ _ _ _ _ rfl rfl K6 Q5 Try.underlying24 (by kernel_rfl), ?_⟩
        exact ⟨B5, by rw [Hq.out]; rfl⟩
end Go.Proofs.Ytlnmmklpccppmaa

/-
  What more functions of the region do: blocks that are compared, whether one may be (the document's), may follow another one, is all taken: contracts, one a function.
-/
import Derived.Test.YthiijnanfiddpaaDoorBudB
import Derived.Laws.StructEq
namespace Go.Proofs.YthiijnanfiddpaaDoor
open Go.RowKit

/-- Two blocks are the same, or are not. -/
def sameB (x y : Blk) : Bool := x.1 == y.1 && x.2 == y.2
theorem sameB_iff (x y : Blk) : sameB x y = true ↔ x = y := by
  unfold sameB
  rw [Bool.and_eq_true, beq_iff_eq, beq_iff_eq]
  exact ⟨fun h => Prod.ext h.1 h.2, fun h => by rw [h]; exact ⟨rfl, rfl⟩⟩
theorem sameB_no {x y : Blk} (h : x ≠ y) : sameB x y = false := by
  rw [← Bool.not_eq_true, sameB_iff]
  exact h
theorem run_eql_blk (x o y p : Int) (W : World) : (binOp .eql 32 (.agg #[.int .i64 x, .int .i64 o]) (.agg #[.int .i64 y, .int .i64 p])).run Tryd.prog W = .ok (.bool (sameB (x, o) (y, p))) W := by
  have u3 := Tryd.underlying3
  have a3 := Tryd.isAgg3
  have z3 := Tryd.sizeOf3
  have hS : Tryd.prog.underlying 32 = some (.struct (Tryd.prog.fieldsOf 32)) := by kernel_rfl
  have hp : Tryd.prog.stoodInHeld 32 = false := by kernel_rfl
  rw [run_eql_struct, show (10000 : Nat) = 9999 + 1 from rfl, run_equalIn_agg W 9999 32 _ _ hS hp]
  simp only [Program.fieldsOf, Tryd.underlying32]
  unfold sameB
  go_simp
  by_cases h1 : x = y <;> by_cases h2 : o = p <;> simp [h1, h2]
theorem run_neq_blk (x o y p : Int) (W : World) : (binOp .neq 32 (.agg #[.int .i64 x, .int .i64 o]) (.agg #[.int .i64 y, .int .i64 p])).run Tryd.prog W = .ok (.bool (!sameB (x, o) (y, p))) W := by
  have u3 := Tryd.underlying3
  have a3 := Tryd.isAgg3
  have z3 := Tryd.sizeOf3
  have hS : Tryd.prog.underlying 32 = some (.struct (Tryd.prog.fieldsOf 32)) := by kernel_rfl
  have hp : Tryd.prog.stoodInHeld 32 = false := by kernel_rfl
  rw [run_neq_struct, show (10000 : Nat) = 9999 + 1 from rfl, run_equalIn_agg W 9999 32 _ _ hS hp]
  simp only [Program.fieldsOf, Tryd.underlying32]
  unfold sameB
  go_simp
  by_cases h1 : x = y <;> by_cases h2 : o = p <;> simp [h1, h2]
theorem noGuard : Tryd.prog.eqGuardType Tryd.prog.depth 32 = false := by kernel_rfl

/-- b may follow a. -/
def mayFol (a b : Blk) : Bool := decide (a.1 < b.1) && !sameB b (twin a)
set_option maxHeartbeats 1000000 in
theorem mayFollow_any (a b : Blk) (w : World) (ha : 0 ≤ a.2 ∧ a.2 ≤ 8) (ra : 0 ≤ a.1 ∧ a.1 ≤ 256) :
    Calls Tryd.prog 53 #[bval a, bval b] w (Says w (.bool (mayFol a b))) := by
  have S1 := fun W => twin_any a W ha ra
  obtain ⟨x, o⟩ := a
  obtain ⟨y, p⟩ := b
  unfold mayFol
  simp only
  obtain ⟨⟨u, v⟩, huv⟩ : ∃ c, c = twin (x, o) := ⟨_, rfl⟩
  rw [← huv] at S1 ⊢
  clear huv
  have q := run_neq_blk y p u v
  obtain ⟨r, hr⟩ : ∃ r, r = sameB (y, p) (u, v) := ⟨_, rfl⟩
  rw [← hr] at q ⊢
  clear hr
  have hm := noGuard
  unfold bval enc2 at S1 ⊢
  simp only at S1 ⊢
  have g1 : Grew w ((w.alloc (.cells #[.int .i64 x, .int .i64 o] 32)).alloc (.cells #[.int .i64 y, .int .i64 p] 32)) := ((Grew.refl w).alloc _).alloc _
  have B1 := (Box2.new w (x, o) 32).alloc (.cells #[.int .i64 y, .int .i64 p] 32)
  have B2 := Box2.new (w.alloc (.cells #[.int .i64 x, .int .i64 o] 32)) (y, p) 32
  simp only [World.size_alloc] at B2
  have mixed : Tryd.prog.follows .mixedOrders = true := by kernel_rfl
  by_cases h1 : x < y
  · have hd : decide (x < y) = true := decide_eq_true h1
    rw [hd, Bool.true_and]
    go_enter Tryd.func53, Tryd.ntmps53
    go_wp2_with fail
    generalize (w.alloc (.cells #[.int .i64 x, .int .i64 o] 32)).alloc (.cells #[.int .i64 y, .int .i64 p] 32) = w1 at g1 B1 B2 ⊢
    have c0 := B1.g0
    have c1 := B1.g1
    have d0 := B2.g0
    have d1 := B2.g1
    simp only at c0 c1 d0 d1
    clear B1 B2
    refine wp_region_quiet_grown mixed (by kernel_rfl) ?_
    repeat (go_big_quiet_step ((go_at_call 40; exact calls_grown_says (S1 _))))
    refine wpQuiet_nil ?_
    intro _ hw'
    obtain ⟨⟨nq, osq⟩, hw''⟩ := hw'
    subst hw''
    have g2 := g1.grow nq osq
    go_wp2
    go_ret
    exact ⟨rfl, g2⟩
  · have hd : decide (x < y) = false := decide_eq_false h1
    rw [hd, Bool.false_and]
    go_enter Tryd.func53, Tryd.ntmps53
    go_wp2_with fail
    generalize (w.alloc (.cells #[.int .i64 x, .int .i64 o] 32)).alloc (.cells #[.int .i64 y, .int .i64 p] 32) = w1 at g1 B1 B2 ⊢
    have c0 := B1.g0
    have c1 := B1.g1
    have d0 := B2.g0
    have d1 := B2.g1
    simp only at c0 c1 d0 d1
    clear B1 B2
    refine wp_region_quiet_grown mixed (by kernel_rfl) ?_
    repeat (go_big_quiet_step ((go_at_call 40; exact calls_grown_says (S1 _))))
    refine wpQuiet_nil ?_
    intro _ hw'
    obtain ⟨⟨nq, osq⟩, hw''⟩ := hw'
    subst hw''
    have g2 := g1.grow nq osq
    go_wp2
    go_ret
    exact ⟨rfl, g2⟩

set_option maxHeartbeats 2000000 in
theorem refMay_any (r : Int) (b : Blk) (w : World) (hr : 0 ≤ r ∧ r ≤ 8) :
    Calls Tryd.prog 33 #[.int .i64 r, bval b] w (Says w (.bool (decide (May r b)))) := by
  obtain ⟨y, p⟩ := b
  rw [may_iff]
  unfold bval enc2
  simp only
  have g1 : Grew w (w.alloc (.cells #[.int .i64 y, .int .i64 p] 32)) := (Grew.refl w).alloc _
  have B1 := Box2.new w (y, p) 32
  have mixed : Tryd.prog.follows .mixedOrders = true := by kernel_rfl
  by_cases h0 : 0 ≤ p
  · have k0 : decide (p < 0) = false := by simp; omega
    by_cases hp : p ≤ r
    · have k1 : decide (r < p) = false := by simp; omega
      have S1 := fun W => refSize_any p W h0 (by omega)
      have S2 := fun W => refSize_any r W hr.1 hr.2
      have l1 := sz_le256 (o := p) h0 (by omega)
      have p1 := sz_pos p
      have l2 := sz_le256 hr.1 hr.2
      have p2 := sz_pos r
      rw [decide_eq_true h0, decide_eq_true hp, Bool.true_and, Bool.true_and]
      obtain ⟨s, hs⟩ : ∃ s, s = sz p := ⟨_, rfl⟩
      obtain ⟨t, ht⟩ : ∃ t, t = sz r := ⟨_, rfl⟩
      rw [← hs] at S1 l1 p1 ⊢
      rw [← ht] at S2 l2 p2 ⊢
      clear hs ht
      have e1 : IntKind.i64.wrap (t - s) = t - s := by rw [IntKind.wrap_i64]; omega
      have hs0 : (s == 0) = false := by simp; omega
      by_cases hy : 0 ≤ y
      · have hd : decide (y < 0) = false := by simp; omega
        rw [decide_eq_true hy, Bool.true_and]
        by_cases hz : y ≤ t - s
        · have hd2 : decide (t - s < y) = false := by simp; omega
          rw [decide_eq_true hz, Bool.true_and]
          go_enter Tryd.func33, Tryd.ntmps33
          go_wp2_with fail
          generalize w.alloc (.cells #[.int .i64 y, .int .i64 p] 32) = w1 at g1 B1 ⊢
          have c0 := B1.g0
          have c1 := B1.g1
          simp only at c0 c1
          have HB := Lib.hid B1
          clear B1
          refine wp_region_quiet_grown mixed (by kernel_rfl) ?_
          repeat (go_big_quiet_step ((first | (go_at_call_of 16 p; exact calls_grown_same (S1 _)) | (go_at_call_of 16 r; exact calls_grown_same (S2 _)))))
          refine wpQuiet_nil ?_
          intro _ hw'
          obtain ⟨⟨nq, osq⟩, hw''⟩ := hw'
          subst hw''
          have g2 := g1.grow nq osq
          have B2 : Box2 (Go.Sort.grow (w1.drewN nq) osq) w.heap.size (y, p) := HB.out.below ((Grew.refl _).grow nq osq).below
          clear c0 c1 HB
          generalize Go.Sort.grow (w1.drewN nq) osq = w2 at g2 B2 ⊢
          go_wp2_with fail
          have c0 := B2.g0
          have c1 := B2.g1
          simp only at c0 c1
          clear B2 nq osq
          refine wp_region_quiet_grown mixed (by kernel_rfl) ?_
          repeat (go_big_quiet_step ((go_at_call 16; exact calls_grown_same (S1 _))))
          refine wpQuiet_nil ?_
          intro _ hw'
          obtain ⟨⟨nq, osq⟩, hw''⟩ := hw'
          subst hw''
          have g3 := g2.grow nq osq
          go_wp2
          go_ret
          exact ⟨rfl, g3⟩
        · have hd2 : decide (t - s < y) = true := by simp; omega
          rw [decide_eq_false hz, Bool.false_and]
          go_enter Tryd.func33, Tryd.ntmps33
          go_wp2_with fail
          generalize w.alloc (.cells #[.int .i64 y, .int .i64 p] 32) = w1 at g1 B1 ⊢
          have c0 := B1.g0
          have c1 := B1.g1
          simp only at c0 c1
          clear B1
          refine wp_region_quiet_grown mixed (by kernel_rfl) ?_
          repeat (go_big_quiet_step ((first | (go_at_call_of 16 p; exact calls_grown_same (S1 _)) | (go_at_call_of 16 r; exact calls_grown_same (S2 _)))))
          refine wpQuiet_nil ?_
          intro _ hw'
          obtain ⟨⟨nq, osq⟩, hw''⟩ := hw'
          subst hw''
          have g2 := g1.grow nq osq
          go_wp2
          go_ret
          exact ⟨rfl, g2⟩
      · have hd : decide (y < 0) = true := by simp; omega
        rw [decide_eq_false hy, Bool.false_and]
        go_enter Tryd.func33, Tryd.ntmps33
        go_wp2_with fail
        generalize w.alloc (.cells #[.int .i64 y, .int .i64 p] 32) = w1 at g1 B1 ⊢
        have c0 := B1.g0
        have c1 := B1.g1
        simp only at c0 c1
        clear B1
        refine wp_region_quiet_grown mixed (by kernel_rfl) ?_
        repeat (go_big_quiet_step ((first | (go_at_call_of 16 p; exact calls_grown_same (S1 _)) | (go_at_call_of 16 r; exact calls_grown_same (S2 _)))))
        refine wpQuiet_nil ?_
        intro _ hw'
        obtain ⟨⟨nq, osq⟩, hw''⟩ := hw'
        subst hw''
        have g2 := g1.grow nq osq
        go_wp2
        go_ret
        exact ⟨rfl, g2⟩
    · rw [decide_eq_true h0, decide_eq_false hp, Bool.true_and, Bool.false_and]
      have k1 : decide (r < p) = true := by simp; omega
      go_enter Tryd.func33, Tryd.ntmps33
      go_wp2_with fail
      generalize w.alloc (.cells #[.int .i64 y, .int .i64 p] 32) = w1 at g1 B1 ⊢
      have c0 := B1.g0
      have c1 := B1.g1
      simp only at c0 c1
      clear B1
      refine wp_region_quiet_grown mixed (by kernel_rfl) ?_
      repeat (go_big_quiet_step (fail))
      refine wpQuiet_nil ?_
      intro _ hw'
      obtain ⟨⟨nq, osq⟩, hw''⟩ := hw'
      subst hw''
      have g2 := g1.grow nq osq
      go_wp2
      go_ret
      exact ⟨rfl, g2⟩
  · rw [decide_eq_false h0, Bool.false_and]
    have k1 : decide (p < 0) = true := by simp; omega
    go_enter Tryd.func33, Tryd.ntmps33
    go_wp2_with fail
    generalize w.alloc (.cells #[.int .i64 y, .int .i64 p] 32) = w1 at g1 B1 ⊢
    have c0 := B1.g0
    have c1 := B1.g1
    simp only at c0 c1
    clear B1
    refine wp_region_quiet_grown mixed (by kernel_rfl) ?_
    repeat (go_big_quiet_step (fail))
    refine wpQuiet_nil ?_
    intro _ hw'
    obtain ⟨⟨nq, osq⟩, hw''⟩ := hw'
    subst hw''
    have g2 := g1.grow nq osq
    go_wp2
    go_ret
    exact ⟨rfl, g2⟩

/-- All of a block is taken, by the map of what is free. -/
def allTkn (l : List Bool) (b : Blk) : Bool := runL l b.1 (wordsI b.2) false == b.1
set_option maxHeartbeats 1000000 in
theorem allTaken_any (g h : Nat) (l : List Bool) (b : Blk) (w : World) (m : MapAt w g h l) (hT : Tab w) :
    Calls Tryd.prog 45 #[.pointer (some ⟨g, 0, none⟩), bval b] w (Says w (.bool (allTkn l b))) := by
  have S1 := fun W => words_any b.2 W
  obtain ⟨y, p⟩ := b
  unfold allTkn
  simp only at *
  obtain ⟨s, hs⟩ : ∃ s, s = wordsI p := ⟨_, rfl⟩
  rw [← hs] at S1 ⊢
  clear hs
  have g1 : Grew w (w.alloc (.cells #[.int .i64 y, .int .i64 p] 32)) := (Grew.refl w).alloc _
  have S2 := fun n os => run_any g h l y s false (Go.Sort.grow ((w.alloc (.cells #[.int .i64 y, .int .i64 p] 32)).drewN n) os) (m.below (g1.grow n os).below) (hT.below (g1.grow n os).below)
  obtain ⟨r, hr⟩ : ∃ r, r = runL l y s false := ⟨_, rfl⟩
  rw [← hr] at S2 ⊢
  clear hr m hT
  unfold bval enc2
  simp only
  have B1 := Box2.new w (y, p) 32
  have mixed : Tryd.prog.follows .mixedOrders = true := by kernel_rfl
  go_enter Tryd.func45, Tryd.ntmps45
  go_wp2_with fail
  generalize w.alloc (.cells #[.int .i64 y, .int .i64 p] 32) = w1 at g1 B1 S2 ⊢
  have c0 := B1.g0
  have c1 := B1.g1
  simp only at c0 c1
  clear B1
  refine wp_region_quiet_grown mixed (by kernel_rfl) ?_
  repeat (go_big_quiet_step (first | (go_at_call 19; exact calls_grown_same (S1 _)) | (go_at_call 30; exact calls_grown_same (S2 _ _))))
  refine wpQuiet_nil ?_
  intro _ hw'
  obtain ⟨⟨nq, osq⟩, hw''⟩ := hw'
  subst hw''
  have g2 := g1.grow nq osq
  go_wp2
  go_ret
  exact ⟨rfl, g2⟩
end Go.Proofs.YthiijnanfiddpaaDoor

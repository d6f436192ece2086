/-
  What the functions of the region that take blocks by value do, the program's and the document's: whether a block may be, meets another one, its twin: contracts, one a function.
-/
import Derived.Test.YthiijnanfiddpaaDoorBudA
import Derived.Shelf.SlSortCmp.QuietGrown
namespace Go.Proofs.YthiijnanfiddpaaDoor
open Go.RowKit

/-- A world behind calls that read, draw and lay blocks of their own, and turn nothing. -/
def Grew (w w' : World) : Prop := ∃ q os, w' = Go.Sort.grow (w.drewN q) os
theorem Grew.refl (w : World) : Grew w w := ⟨0, #[], by rw [Go.Sort.grow_empty]; rfl⟩
theorem Grew.trans {a b c : World} (h : Grew a b) (k : Grew b c) : Grew a c := by
  obtain ⟨q, os, rfl⟩ := h
  obtain ⟨p, os', rfl⟩ := k
  exact ⟨q + p, os ++ os', by show Go.Sort.grow (Go.Sort.grow ((a.drewN q).drewN p) os) os' = _; rw [Go.Sort.grow_grow, World.drewN_drewN]⟩
theorem Grew.alloc {a b : World} (h : Grew a b) (o : Obj) : Grew a (b.alloc o) := h.trans ⟨0, #[o], by rw [Go.Sort.alloc_eq_grow]; rfl⟩
theorem Grew.drewN {a b : World} (h : Grew a b) (n : Nat) : Grew a (b.drewN n) := h.trans ⟨n, #[], by rw [Go.Sort.grow_empty]⟩
theorem Grew.drew {a b : World} (h : Grew a b) : Grew a b.drew := h.drewN 1
theorem Grew.grow {a b : World} (h : Grew a b) (n : Nat) (os : Array Obj) : Grew a (Go.Sort.grow (b.drewN n) os) := h.trans ⟨n, os, rfl⟩
theorem Grew.below {a b : World} (h : Grew a b) : Below a.heap.size a b := by
  obtain ⟨q, os, rfl⟩ := h
  exact ⟨rfl, rfl, rfl, by rw [Go.Sort.size_grow]; exact Nat.le_add_right _ _, fun k hk => Go.Sort.heap_grow_old (a.drewN q) os hk⟩
/-- What such a call tells. -/
def Says (w : World) (v : Value) (e : Ending) (w' : World) : Prop := e = .returned v ∧ Grew w w'
theorem Says.tells {w : World} {v : Value} {e : Ending} {w' : World} (h : Says w v e w') : Tells w v e w' := ⟨h.1, h.2.below⟩

/-- Block k of memory holds a block of the region. -/
structure Box2 (w : World) (k : Nat) (b : Blk) : Prop where
  lt : k < w.heap.size
  c0 : w.cell? ⟨k, 0, none⟩ = some (.int .i64 b.1)
  c1 : w.cell? ⟨k, 1, none⟩ = some (.int .i64 b.2)
theorem Box2.new (w : World) (b : Blk) (t : TypeId) : Box2 (w.alloc (.cells #[.int .i64 b.1, .int .i64 b.2] t)) w.heap.size b := by
  have hw := Whole.new w #[.int .i64 b.1, .int .i64 b.2] t
  exact ⟨by simp, by rw [hw.cell]; rfl, by rw [hw.cell]; rfl⟩
theorem Box2.below {w w' : World} {k : Nat} {b : Blk} (h : Box2 w k b) (hb : Below w.heap.size w w') : Box2 w' k b :=
  ⟨Nat.lt_of_lt_of_le h.lt hb.size, (hb.cell (p := ⟨k, 0, none⟩) h.lt).trans h.c0, (hb.cell (p := ⟨k, 1, none⟩) h.lt).trans h.c1⟩
theorem Box2.alloc {w : World} {k : Nat} {b : Blk} (h : Box2 w k b) (o : Obj) : Box2 (w.alloc o) k b := h.below ((Below.refl _ _).alloc (Nat.le_refl _) o)
theorem Box2.g0 {w : World} {k : Nat} {b : Blk} (h : Box2 w k b) (n : Nat) (os : Array Obj) : (Go.Sort.grow (w.drewN n) os).cell? ⟨k, 0, none⟩ = some (.int .i64 b.1) := cell_grown h.lt h.c0 n os
theorem Box2.g1 {w : World} {k : Nat} {b : Blk} (h : Box2 w k b) (n : Nat) (os : Array Obj) : (Go.Sort.grow (w.drewN n) os).cell? ⟨k, 1, none⟩ = some (.int .i64 b.2) := cell_grown h.lt h.c1 n os
/-- A contract that turns nothing at all, in a world of the class. -/
theorem calls_grown_same {P : Program} {f : FuncId} {args : Array Value} {w : World} {n : Nat} {os : Array Obj} {v : Value}
    (h : Calls P f args (Go.Sort.grow (w.drewN n) os) fun e w' => e = .returned v ∧ Go.Sort.grow (w.drewN n) os = w') : Calls P f args (Go.Sort.grow (w.drewN n) os) fun e w'' => e = .returned v ∧ ∃ p : GrownBy, w'' = Go.Sort.grow (w.drewN p.n) p.os :=
  h.mono fun _ _ ⟨he, hq⟩ => ⟨he, ⟨n, os⟩, hq.symm⟩
theorem calls_grown_says {P : Program} {f : FuncId} {args : Array Value} {w : World} {n : Nat} {os : Array Obj} {v : Value}
    (h : Calls P f args (Go.Sort.grow (w.drewN n) os) (Says (Go.Sort.grow (w.drewN n) os) v)) : Calls P f args (Go.Sort.grow (w.drewN n) os) fun e w'' => e = .returned v ∧ ∃ p : GrownBy, w'' = Go.Sort.grow (w.drewN p.n) p.os :=
  Calls.grown_of (h.mono fun _ _ ⟨he, q, os', hq⟩ => ⟨he, q, os', hq⟩)

set_option maxHeartbeats 1000000 in
theorem refMeet_any (a b : Blk) (w : World) (ha : 0 ≤ a.2 ∧ a.2 ≤ 8) (hb : 0 ≤ b.2 ∧ b.2 ≤ 8) (ra : 0 ≤ a.1 ∧ a.1 ≤ 256) (rb : 0 ≤ b.1 ∧ b.1 ≤ 256) :
    Calls Tryd.prog 34 #[bval a, bval b] w (Says w (.bool (decide (Meets a b)))) := by
  have S1 := fun W => refSize_any b.2 W hb.1 hb.2
  have S2 := fun W => refSize_any a.2 W ha.1 ha.2
  have l1 := sz_le256 hb.1 hb.2
  have l2 := sz_le256 ha.1 ha.2
  have p1 := sz_pos b.2
  have p2 := sz_pos a.2
  obtain ⟨x, o⟩ := a
  obtain ⟨y, p⟩ := b
  have key : decide (Meets (x, o) (y, p)) = (decide (x < y + sz p) && decide (y < x + sz o)) := by rw [Bool.eq_iff_iff, decide_eq_true_iff, Bool.and_eq_true, decide_eq_true_iff, decide_eq_true_iff]; exact Iff.rfl
  rw [key]
  clear key
  simp only at *
  obtain ⟨s, hs⟩ : ∃ s, s = sz p := ⟨_, rfl⟩
  obtain ⟨t, ht⟩ : ∃ t, t = sz o := ⟨_, rfl⟩
  rw [← hs] at S1 l1 p1 ⊢
  rw [← ht] at S2 l2 p2 ⊢
  clear hs ht
  unfold bval enc2
  simp only
  have g1 : Grew w ((w.alloc (.cells #[.int .i64 x, .int .i64 o] 32)).alloc (.cells #[.int .i64 y, .int .i64 p] 32)) := ((Grew.refl w).alloc _).alloc _
  have B1 := (Box2.new w (x, o) 32).alloc (.cells #[.int .i64 y, .int .i64 p] 32)
  have B2 := Box2.new (w.alloc (.cells #[.int .i64 x, .int .i64 o] 32)) (y, p) 32
  simp only [World.size_alloc] at B2
  have e1 : IntKind.i64.wrap (y + s) = y + s := by rw [IntKind.wrap_i64]; omega
  have e2 : IntKind.i64.wrap (x + t) = x + t := by rw [IntKind.wrap_i64]; omega
  by_cases h1 : x < y + s
  · have hd : decide (x < y + s) = true := decide_eq_true h1
    rw [hd, Bool.true_and]
    go_enter Tryd.func34, Tryd.ntmps34
    go_wp2_with fail
    generalize (w.alloc (.cells #[.int .i64 x, .int .i64 o] 32)).alloc (.cells #[.int .i64 y, .int .i64 p] 32) = w1 at g1 B1 B2 ⊢
    have c0 := B1.g0
    have c1 := B1.g1
    have d0 := B2.g0
    have d1 := B2.g1
    simp only at c0 c1 d0 d1
    clear B1 B2
    have mixed : Tryd.prog.follows .mixedOrders = true := by kernel_rfl
    refine wp_region_quiet_grown mixed (by kernel_rfl) ?_
    repeat (go_big_quiet_step (first | (go_at_call_of 16 p; exact calls_grown_same (S1 _)) | (go_at_call_of 16 o; exact calls_grown_same (S2 _))))
    refine wpQuiet_nil ?_
    intro _ hw'
    obtain ⟨⟨nq, osq⟩, hw''⟩ := hw'
    subst hw''
    have g2 := g1.grow nq osq
    clear c0 c1 d0 d1 S1 S2
    go_wp2
    go_ret
    exact ⟨rfl, g2⟩
  · have hd : decide (x < y + s) = false := decide_eq_false h1
    rw [hd, Bool.false_and]
    have hq : (x < y + s) = False := eq_false h1
    clear h1 hd
    go_enter Tryd.func34, Tryd.ntmps34
    go_wp2_with fail
    generalize (w.alloc (.cells #[.int .i64 x, .int .i64 o] 32)).alloc (.cells #[.int .i64 y, .int .i64 p] 32) = w1 at g1 B1 B2 ⊢
    have c0 := B1.g0
    have c1 := B1.g1
    have d0 := B2.g0
    have d1 := B2.g1
    simp only at c0 c1 d0 d1
    clear B1 B2
    have mixed : Tryd.prog.follows .mixedOrders = true := by kernel_rfl
    refine wp_region_quiet_grown mixed (by kernel_rfl) ?_
    repeat (go_big_quiet_step (first | (go_at_call_of 16 p; exact calls_grown_same (S1 _)) | (go_at_call_of 16 o; exact calls_grown_same (S2 _))))
    refine wpQuiet_nil ?_
    intro _ hw'
    obtain ⟨⟨nq, osq⟩, hw''⟩ := hw'
    subst hw''
    have g2 := g1.grow nq osq
    clear c0 c1 d0 d1 S1 S2
    go_wp2
    go_ret
    exact ⟨rfl, g2⟩

theorem results_box {fn : Func} {p : Tmp} {b : Blk} (h : fn.results = #[.cell p 32]) (tmps : Array Value) (w : World) (k : Nat) (hp : tmps.getD p undef = .pointer (some ⟨k, 0, none⟩))
    (c0 : w.cell? ⟨k, 0, none⟩ = some (.int .i64 b.1)) (c1 : w.cell? ⟨k, 1, none⟩ = some (.int .i64 b.2)) : (results fn tmps).run Tryd.prog w = .ok (bval b) w := by
  have u := Tryd.underlying32
  have z := Tryd.sizeOf32
  have a := Tryd.isAgg32
  have hp' : tmps[p]?.getD undef = .pointer (some ⟨k, 0, none⟩) := by simpa using hp
  simp only [results, h]
  simp [hp', asAddr, loadVar]
  go_simp
  rfl
theorem sz_mod (x : Int) {o : Int} (hx : 0 ≤ x) : x.tmod (sz o) = x % sz o := Int.tmod_eq_emod_of_nonneg hx

set_option maxHeartbeats 1000000 in
theorem refTwin_any (b : Blk) (w : World) (hb : 0 ≤ b.2 ∧ b.2 ≤ 8) (rb : 0 ≤ b.1 ∧ b.1 ≤ 256) :
    Calls Tryd.prog 35 #[bval b] w (Says w (bval (twin b))) := by
  have S1 := fun W => refSize_any b.2 W hb.1 hb.2
  have l1 := sz_le256 hb.1 hb.2
  have p1 := sz_pos b.2
  obtain ⟨y, p⟩ := b
  unfold twin
  simp only at *
  obtain ⟨s, hs⟩ : ∃ s, s = sz p := ⟨_, rfl⟩
  rw [← hs] at S1 l1 p1 ⊢
  clear hs
  unfold bval enc2
  by_cases h1 : y % (2 * s) = 0
  · rw [if_pos h1]
    go_enter Tryd.func35, Tryd.ntmps35
    go_wp2_with (go_at_call 16; refine (S1 _).mono ?_; rintro e w1 ⟨rfl, rfl⟩)
    refine bodyPost_ret (results_box (b := (y + s, p)) rfl _ _ (w.heap.size + 1) rfl (by go_simp) (by go_simp)) rfl ?_
    exact ⟨rfl, ((Grew.refl w).alloc _).alloc _⟩
  · rw [if_neg h1]
    go_enter Tryd.func35, Tryd.ntmps35
    go_wp2_with (go_at_call 16; refine (S1 _).mono ?_; rintro e w1 ⟨rfl, rfl⟩)
    refine bodyPost_ret (results_box (b := (y - s, p)) rfl _ _ (w.heap.size + 1) rfl (by go_simp) (by go_simp)) rfl ?_
    exact ⟨rfl, ((Grew.refl w).alloc _).alloc _⟩

set_option maxHeartbeats 1000000 in
theorem twin_any (b : Blk) (w : World) (hb : 0 ≤ b.2 ∧ b.2 ≤ 8) (rb : 0 ≤ b.1 ∧ b.1 ≤ 256) :
    Calls Tryd.prog 40 #[bval b] w (Says w (bval (twin b))) := by
  have S1 := fun W => words_any b.2 W
  rw [wordsI_in hb.1 hb.2] at S1
  have l1 := sz_le256 hb.1 hb.2
  have p1 := sz_pos b.2
  obtain ⟨y, p⟩ := b
  unfold twin
  simp only at *
  obtain ⟨s, hs⟩ : ∃ s, s = sz p := ⟨_, rfl⟩
  rw [← hs] at S1 l1 p1 ⊢
  clear hs
  unfold bval enc2
  by_cases h1 : y % (2 * s) = 0
  · rw [if_pos h1]
    go_enter Tryd.func40, Tryd.ntmps40
    go_wp2_with (go_at_call 19; refine (S1 _).mono ?_; rintro e w1 ⟨rfl, rfl⟩)
    refine bodyPost_ret (results_box (b := (y + s, p)) rfl _ _ (w.heap.size + 1) rfl (by go_simp) (by go_simp)) rfl ?_
    exact ⟨rfl, ((Grew.refl w).alloc _).alloc _⟩
  · rw [if_neg h1]
    go_enter Tryd.func40, Tryd.ntmps40
    go_wp2_with (go_at_call 19; refine (S1 _).mono ?_; rintro e w1 ⟨rfl, rfl⟩)
    refine bodyPost_ret (results_box (b := (y - s, p)) rfl _ _ (w.heap.size + 1) rfl (by go_simp) (by go_simp)) rfl ?_
    exact ⟨rfl, ((Grew.refl w).alloc _).alloc _⟩

theorem may_iff (r y p : Int) : decide (May r (y, p)) = (decide (0 ≤ p) && (decide (p ≤ r) && (decide (0 ≤ y) && (decide (y ≤ sz r - sz p) && (y % sz p == 0))))) := by
  rw [Bool.eq_iff_iff, decide_eq_true_iff]
  simp only [Bool.and_eq_true, decide_eq_true_iff, beq_iff_eq]
  exact Iff.rfl

set_option maxHeartbeats 1000000 in
theorem mayBe_any (r : Int) (b : Blk) (w : World) (hr : 0 ≤ r ∧ r ≤ 8) :
    Calls Tryd.prog 44 #[.int .i64 r, bval b] w (Says w (.bool (decide (May r b)))) := by
  obtain ⟨y, p⟩ := b
  rw [may_iff]
  unfold bval enc2
  simp only
  by_cases h0 : 0 ≤ p
  · by_cases hp : p ≤ r
    · have S1 := fun W => words_any p W
      have S2 := fun W => words_any r W
      rw [wordsI_in h0 (by omega)] at S1
      rw [wordsI_in hr.1 hr.2] at S2
      have l1 := sz_le256 (o := p) h0 (by omega)
      have p1 := sz_pos p
      have l2 := sz_le256 hr.1 hr.2
      have p2 := sz_pos r
      rw [decide_eq_true h0, decide_eq_true hp, Bool.true_and, Bool.true_and]
      obtain ⟨s, hs⟩ : ∃ s, s = sz p := ⟨_, rfl⟩
      obtain ⟨t, ht⟩ : ∃ t, t = sz r := ⟨_, rfl⟩
      rw [← hs] at S1 l1 p1 ⊢
      rw [← ht] at S2 l2 p2 ⊢
      clear hs ht
      have e1 : IntKind.i64.wrap (t - s) = t - s := by rw [IntKind.wrap_i64]; omega
      have hs0 : (s == 0) = false := by simp; omega
      have g1 : Grew w (w.alloc (.cells #[.int .i64 y, .int .i64 p] 32)) := (Grew.refl w).alloc _
      have B1 := Box2.new w (y, p) 32
      have mixed : Tryd.prog.follows .mixedOrders = true := by kernel_rfl
      go_enter Tryd.func44, Tryd.ntmps44
      go_wp2_with (go_at_call 19; refine (S1 _).mono ?_; rintro e w1 ⟨rfl, rfl⟩)
      generalize w.alloc (.cells #[.int .i64 y, .int .i64 p] 32) = w1 at g1 B1 ⊢
      have c0 := B1.g0
      have c1 := B1.g1
      simp only at c0 c1
      clear B1 S1
      by_cases hy : 0 ≤ y
      · have hd : decide (0 ≤ y) = true := decide_eq_true hy
        rw [hd, Bool.true_and]
        by_cases hz : y ≤ t - s
        · have hd2 : decide (y ≤ t - s) = true := decide_eq_true hz
          rw [hd2, Bool.true_and]
          refine wp_region_quiet_grown mixed (by kernel_rfl) ?_
          repeat (go_big_quiet_step ((go_at_call_of 19 r; exact calls_grown_same (S2 _))))
          refine wpQuiet_nil ?_
          intro _ hw'
          obtain ⟨⟨nq, osq⟩, hw''⟩ := hw'
          subst hw''
          have g2 := g1.grow nq osq
          go_wp2
          go_ret
          exact ⟨by rw [hd, hd2]; rfl, g2⟩
        · have hd2 : decide (y ≤ t - s) = false := decide_eq_false hz
          rw [hd2, Bool.false_and]
          refine wp_region_quiet_grown mixed (by kernel_rfl) ?_
          repeat (go_big_quiet_step ((go_at_call_of 19 r; exact calls_grown_same (S2 _))))
          refine wpQuiet_nil ?_
          intro _ hw'
          obtain ⟨⟨nq, osq⟩, hw''⟩ := hw'
          subst hw''
          have g2 := g1.grow nq osq
          go_wp2
          go_ret
          exact ⟨rfl, g2⟩
      · have hd : decide (0 ≤ y) = false := decide_eq_false hy
        rw [hd, Bool.false_and]
        refine wp_region_quiet_grown mixed (by kernel_rfl) ?_
        repeat (go_big_quiet_step ((go_at_call_of 19 r; exact calls_grown_same (S2 _))))
        refine wpQuiet_nil ?_
        intro _ hw'
        obtain ⟨⟨nq, osq⟩, hw''⟩ := hw'
        subst hw''
        have g2 := g1.grow nq osq
        go_wp2
        go_ret
        exact ⟨rfl, g2⟩
    · rw [decide_eq_true h0, decide_eq_false hp, Bool.true_and, Bool.false_and]
      go_enter Tryd.func44, Tryd.ntmps44
      go_wp2
      go_ret
      exact ⟨rfl, (Grew.refl w).alloc _⟩
  · rw [decide_eq_false h0, Bool.false_and]
    go_enter Tryd.func44, Tryd.ntmps44
    go_wp2
    go_ret
    exact ⟨rfl, (Grew.refl w).alloc _⟩
end Go.Proofs.YthiijnanfiddpaaDoor

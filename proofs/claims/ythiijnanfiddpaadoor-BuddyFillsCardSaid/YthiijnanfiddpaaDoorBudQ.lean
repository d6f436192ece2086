/-
  What the heap of blocks that wait does: contracts, one a function.
-/
import Derived.Test.YthiijnanfiddpaaDoorBudB
import Derived.Test.YthiijnanfiddpaaDoorBudHeap
import Derived.BigRegion
namespace Go.Proofs.YthiijnanfiddpaaDoor
open Go.RowKit

/-- The methods by which blocks wait. -/
def mSize : Value := .func (.methodOf 57 "tumulus/buddy.size") #[] #[]
def mSwap : Value := .func (.methodOf 57 "tumulus/buddy.swap") #[] #[]
def mPush : Value := .func (.methodOf 57 "tumulus/buddy.push") #[] #[]
def mPop : Value := .func (.methodOf 57 "tumulus/buddy.pop") #[] #[]
def mLess : Value := .func (.func 70) #[] #[]
/-- The cells of a queue. -/
def qcs (g : Nat) : List Value := [.pointer (some ⟨g, 0, none⟩), mSize, mLess, mSwap, mPush, mPop]

theorem run_mSize (g : Nat) (W : World) : Sem.run Tryd.prog (method 245 57 (.pointer (some ⟨g, 0, none⟩)) "tumulus/buddy.size") W = .ok (69, .pointer (some ⟨g, 0, none⟩)) W := by kernel_rfl
theorem run_mSwap (g : Nat) (W : World) : Sem.run Tryd.prog (method 245 57 (.pointer (some ⟨g, 0, none⟩)) "tumulus/buddy.swap") W = .ok (71, .pointer (some ⟨g, 0, none⟩)) W := by kernel_rfl
theorem run_mPush (g : Nat) (W : World) : Sem.run Tryd.prog (method 245 57 (.pointer (some ⟨g, 0, none⟩)) "tumulus/buddy.push") W = .ok (72, .pointer (some ⟨g, 0, none⟩)) W := by kernel_rfl
theorem run_mPop (g : Nat) (W : World) : Sem.run Tryd.prog (method 245 57 (.pointer (some ⟨g, 0, none⟩)) "tumulus/buddy.pop") W = .ok (73, .pointer (some ⟨g, 0, none⟩)) W := by kernel_rfl
set_option maxHeartbeats 400000 in
theorem size_any (g n c : Nat) (A : Option Addr) (w : World) (h : Whole w g 71 [.slice A n c]) :
    Calls Tryd.prog 69 #[.pointer (some ⟨g, 0, none⟩)] w (Says w (.int .i64 (n : Int))) := by
  have c0 := h.cell 0
  go_enter Tryd.func69, Tryd.ntmps69
  go_wp2
  go_ret
  exact ⟨rfl, Grew.refl _⟩

/-- What waits: block g is the struct, whose list is v, of the call's own. -/
structure QAt (w : World) (base g : Nat) (v : Value) (l : List Blk) : Prop where
  at_ : Whole w g 71 [v]
  own : OwnB 32 w base v l
  lo : base ≤ g
theorem QAt.below {w w' : World} {base g : Nat} {v : Value} {l : List Blk} (h : QAt w base g v l) (b : Below w.heap.size w w') : QAt w' base g v l := ⟨h.at_.below b, h.own.below b, h.lo⟩
theorem QAt.ne {w : World} {base g n c : Nat} {A : Addr} {l : List Blk} (h : QAt w base g (.slice (some A) n c) l) : A.block ≠ g := by
  obtain ⟨h1, h2, _⟩ := h
  rcases h2.2 with ⟨e, _⟩ | ⟨g', cap, cur, e, _, hh, _⟩
  · cases e
  · injection e with e _ _
    injection e with e
    subst e
    rintro rfl
    unfold Whole at h1
    rw [hh] at h1
    injection h1 with h1
    injection h1 with _ ht
    exact absurd ht (by decide)

theorem two_allocs {w : World} {p : Addr} {v : Value} (hp : p.block < w.heap.size) (h : w.cell? p = some v) : (∀ o, (w.alloc o).cell? p = some v) ∧ ∀ o o', ((w.alloc o).alloc o').cell? p = some v := by
  have e : ∀ o, (w.alloc o).cell? p = some v := fun o => (((Below.refl w.heap.size w).alloc (Nat.le_refl _) o).cell (p := p) hp).trans h
  exact ⟨e, fun o o' => ((((Below.refl w.heap.size w).alloc (Nat.le_refl _) o).alloc (by simp) o').cell (p := p) hp).trans h⟩
set_option maxHeartbeats 1000000 in
theorem less_any (base g : Nat) (v : Value) (l : List Blk) (i j : Nat) (w : World) (h : QAt w base g v l) (hi : i < l.length) (hj : j < l.length) :
    Calls Tryd.prog 70 #[.pointer (some ⟨g, 0, none⟩), .int .i64 (i : Int), .int .i64 (j : Int)] w (Says w (.bool (lessB (nth l i) (nth l j)))) := by
  have c := h.at_.cell 0
  obtain ⟨n, hn⟩ : ∃ n, n = l.length := ⟨_, rfl⟩
  obtain ⟨r, cap, rfl, _, hr, _, _⟩ := h.own.form hn.symm (by omega)
  have hg := h.at_.lt
  obtain ⟨a0, a1⟩ := h.own.cell hn.symm (nth_get hi)
  obtain ⟨b0, b1⟩ := h.own.cell hn.symm (nth_get hj)
  obtain ⟨⟨x, o⟩, hx⟩ : ∃ x, x = nth l i := ⟨_, rfl⟩
  obtain ⟨⟨y, p⟩, hy⟩ : ∃ x, x = nth l j := ⟨_, rfl⟩
  rw [← hx] at a0 a1 ⊢
  rw [← hy] at b0 b1 ⊢
  rw [← hn] at hi hj
  unfold lessB
  simp only at *
  clear hx hy h hn
  obtain ⟨c', c''⟩ := two_allocs (p := ⟨g, 0, none⟩) hg c
  obtain ⟨a0', a0''⟩ := two_allocs (p := ⟨r, i * 2, none⟩) hr a0
  obtain ⟨a1', a1''⟩ := two_allocs (p := ⟨r, i * 2 + 1, none⟩) hr a1
  obtain ⟨b0', b0''⟩ := two_allocs (p := ⟨r, j * 2, none⟩) hr b0
  obtain ⟨b1', b1''⟩ := two_allocs (p := ⟨r, j * 2 + 1, none⟩) hr b1
  have k1 : (i : Int) < (n : Int) := by omega
  have k2 : (j : Int) < (n : Int) := by omega
  by_cases e : o = p
  · subst e
    go_enter Tryd.func70, Tryd.ntmps70
    go_wp2_with fail
    go_region
    all_goals
      go_wp2
      go_ret
      exact ⟨by simp, (((Grew.refl w).alloc _).alloc _).drew⟩
  · have e2 : (o == p) = false := by simpa using e
    go_enter Tryd.func70, Tryd.ntmps70
    go_wp2_with fail
    go_region
    all_goals
      go_wp2
      go_ret
      exact ⟨by simp [e2], (((Grew.refl w).alloc _).alloc _).drew⟩

/-- What a call that works on what waits leaves beside it: all else as it was. -/
structure QStep (w w' : World) (g : Nat) (v v' : Value) : Prop where
  os : w'.os = w.os
  tape : w'.tape = w.tape
  output : w'.output = w.output
  size : w.heap.size ≤ w'.heap.size
  block : ∀ k, k < w.heap.size → k ≠ g → v.ownBlock ≠ some k → w'.heap[k]? = w.heap[k]?
  own : v'.ownBlock = v.ownBlock ∨ ∃ k, v'.ownBlock = some k ∧ w.heap.size ≤ k
theorem QStep.of_below {w w' : World} (h : Below w.heap.size w w') (g : Nat) (v : Value) : QStep w w' g v v := ⟨h.os, h.tape, h.output, h.size, fun k hk _ _ => h.block k hk, .inl rfl⟩
theorem QStep.of_grown {w w' : World} {v : Value} (h : w.grownBy w' v.ownBlock) (g : Nat) : QStep w w' g v v := ⟨h.os, h.tape, h.output, h.size, fun k hk _ hv => h.block k hk (fun e => hv e.symm), .inl rfl⟩
theorem QStep.trans {a b c : World} {g : Nat} {u v x : Value} (h : QStep a b g u v) (k : QStep b c g v x) : QStep a c g u x where
  os := k.os.trans h.os
  tape := k.tape.trans h.tape
  output := k.output.trans h.output
  size := Nat.le_trans h.size k.size
  block := fun i hi hg hu => by
    refine (k.block i (Nat.lt_of_lt_of_le hi h.size) hg ?_).trans (h.block i hi hg hu)
    rcases h.own with e | ⟨m, e, hm⟩
    · rw [e]; exact hu
    · rw [e]
      intro e2
      injection e2 with e2
      omega
  own := by
    rcases k.own with e | ⟨m, e, hm⟩
    · rw [e]; exact h.own
    · exact .inr ⟨m, e, Nat.le_trans h.size hm⟩
theorem QStep.below {a b : World} {base g : Nat} {v v' : Value} {l : List Blk} (h : QStep a b g v v') (q : QAt a base g v l) {B : Nat} (hB : B ≤ base) : Below B a b := 
  ⟨h.os, h.tape, h.output, h.size, fun k hk => h.block k (by have := q.at_.lt; have := q.lo; omega) (by have := q.lo; omega) fun e => by have := q.own.lt k e; omega⟩

/-- What a call that works on what waits leaves. -/
def Waits (w : World) (base g : Nat) (v : Value) (l : List Blk) (v' : Value) (w' : World) : Prop := QAt w' base g v' l ∧ QStep w w' g v v'

set_option maxHeartbeats 2000000 in
theorem swap_any (base g : Nat) (v : Value) (l : List Blk) (i j : Nat) (w : World) (h : QAt w base g v l) (hi : i < l.length) (hj : j < l.length) :
    Calls Tryd.prog 71 #[.pointer (some ⟨g, 0, none⟩), .int .i64 (i : Int), .int .i64 (j : Int)] w fun e w' => e = .returned (.tuple #[]) ∧ Waits w base g v (swp2 l i j) v w' := by
  have c := h.at_.cell 0
  have hg := h.at_.lt
  obtain ⟨n, hn⟩ : ∃ n, n = l.length := ⟨_, rfl⟩
  obtain ⟨r, cap, rfl, _, hr, _, _⟩ := h.own.form hn.symm (by omega)
  obtain ⟨a0, a1⟩ := h.own.cell hn.symm (nth_get hi)
  obtain ⟨b0, b1⟩ := h.own.cell hn.symm (nth_get hj)
  have f := h.own.free hn.symm
  obtain ⟨⟨x, o⟩, hx⟩ : ∃ x, x = nth l i := ⟨_, rfl⟩
  obtain ⟨⟨y, p⟩, hy⟩ : ∃ x, x = nth l j := ⟨_, rfl⟩
  rw [← hx] at a0 a1
  rw [← hy] at b0 b1
  simp only at *
  have k1 : (i : Int) < (n : Int) := by omega
  have k2 : (j : Int) < (n : Int) := by omega
  have H := Lib.hid h
  have hne : r ≠ g := h.ne
  obtain ⟨u1, f1⟩ := cell?_setCell_some (w := w) (p := ⟨r, i * 2, none⟩) (x := .int .i64 y) (q := ⟨r, j * 2, none⟩) b0
  obtain ⟨u2', f2'⟩ := cell?_setCell_some (w := w) (p := ⟨r, i * 2, none⟩) (x := .int .i64 y) (q := ⟨r, j * 2 + 1, none⟩) b1
  obtain ⟨u2, f2⟩ := cell?_setCell_some (p := ⟨r, i * 2 + 1, none⟩) (x := .int .i64 p) (q := ⟨r, j * 2 + 1, none⟩) f2'
  obtain ⟨u3, f3⟩ := cell?_setCell_some (w := w) (p := ⟨r, j * 2, none⟩) (x := .int .i64 x) (q := ⟨r, i * 2, none⟩) a0
  obtain ⟨u4', f4'⟩ := cell?_setCell_some (w := w) (p := ⟨r, j * 2, none⟩) (x := .int .i64 x) (q := ⟨r, i * 2 + 1, none⟩) a1
  obtain ⟨u4, f4⟩ := cell?_setCell_some (p := ⟨r, j * 2 + 1, none⟩) (x := .int .i64 o) (q := ⟨r, i * 2 + 1, none⟩) f4'
  clear h
  go_enter Tryd.func71, Tryd.ntmps71
  go_wp2_with fail
  go_region
  go_end0
  have hg1 := grown_trans (grown_trans (grown_trans (grown_set w r (i * 2) (.int .i64 y)) (grown_set _ r (i * 2 + 1) (.int .i64 p))) (grown_set _ r (j * 2) (.int .i64 x))) (grown_set _ r (j * 2 + 1) (.int .i64 o))
  have o1 := (H.out.own.set hn.symm i (y, p)).set (by rw [List.length_set]; exact hn.symm) j (x, o)
  have e : (l.set i (y, p)).set j (x, o) = swp2 l i j := by rw [hx, hy]; rfl
  rw [e] at o1
  have hg2 := grown_trans hg1 (grown_below ((Below.refl _ _).drew) (some r))
  exact ⟨rfl, ⟨H.out.at_.grown hg2 (fun e => hne e.symm), o1.drew, H.out.lo⟩, QStep.of_grown hg2 g⟩
end Go.Proofs.YthiijnanfiddpaaDoor

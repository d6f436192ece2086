/-
  What the calls by which the library's heap asks do: contracts, one a function.
-/
import Derived.Test.YthiijnanfiddpaaDoorBudQ2
namespace Go.Proofs.YthiijnanfiddpaaDoor
open Go.RowKit

/-- A queue as a value, and as one of the library's interface. -/
def qv (g : Nat) : Value := .agg (qcs g).toArray
def qi (g : Nat) : Value := .iface 66 (qv g)
theorem run_iLen (g : Nat) (W : World) : Sem.run Tryd.prog (method 245 66 (qv g) "Len") W = .ok (64, qv g) W := by kernel_rfl
theorem run_iLess (g : Nat) (W : World) : Sem.run Tryd.prog (method 245 66 (qv g) "Less") W = .ok (112, qv g) W := by kernel_rfl
theorem run_iSwap (g : Nat) (W : World) : Sem.run Tryd.prog (method 245 66 (qv g) "Swap") W = .ok (115, qv g) W := by kernel_rfl
theorem run_iPush (g : Nat) (W : World) : Sem.run Tryd.prog (method 245 66 (qv g) "Push") W = .ok (114, qv g) W := by kernel_rfl
theorem run_iPop (g : Nat) (W : World) : Sem.run Tryd.prog (method 245 66 (qv g) "Pop") W = .ok (113, qv g) W := by kernel_rfl

theorem run_assert (x o : Int) (W : World) : Sem.run Tryd.prog (Instr.typeAssert (.iface 32 (.agg #[.int .i64 x, .int .i64 o])) 20 32 true) W = .ok (.tuple #[.agg #[.int .i64 x, .int .i64 o], .bool true]) W := by kernel_rfl
theorem grew_one (w : World) (o : Obj) : Grew w (w.alloc o) := (Grew.refl w).alloc o

set_option maxRecDepth 100000 in
set_option maxHeartbeats 1000000 in
theorem qLen_any (base g : Nat) (v : Value) (l : List Blk) (w : World) (h : QAt w base g v l) :
    Calls Tryd.prog 64 #[qv g] w (Says w (.int .i64 (l.length : Int))) := by
  obtain ⟨A, c, rfl, _⟩ := h.own.shape rfl
  have S := fun o => size_any g l.length c A _ (h.below (grew_one w o).below).at_
  have hM := run_mSize g
  clear h
  unfold qv qcs mSize mSwap mPush mPop mLess
  go_enter Tryd.func64, Tryd.ntmps64
  go_wp2_with (go_at_call 69; refine (S _).mono ?_; rintro e w1 ⟨rfl, g1⟩)
  go_ret
  exact ⟨rfl, (grew_one w _).trans g1⟩

set_option maxRecDepth 100000 in
set_option maxHeartbeats 1000000 in
theorem qLess_any (base g : Nat) (v : Value) (l : List Blk) (i j : Nat) (w : World) (h : QAt w base g v l) (hi : i < l.length) (hj : j < l.length) :
    Calls Tryd.prog 112 #[qv g, .int .i64 (i : Int), .int .i64 (j : Int)] w (Says w (.bool (lessB (nth l i) (nth l j)))) := by
  have S := fun o => less_any base g v l i j _ (h.below (grew_one w o).below) hi hj
  obtain ⟨r, hr⟩ : ∃ r, r = lessB (nth l i) (nth l j) := ⟨_, rfl⟩
  rw [← hr] at S ⊢
  clear h hr
  unfold qv qcs mSize mSwap mPush mPop mLess
  go_enter Tryd.func112, Tryd.ntmps112
  go_wp2_with (go_at_call 70; refine (S _).mono ?_; rintro e w1 ⟨rfl, g1⟩)
  go_ret
  exact ⟨rfl, (grew_one w _).trans g1⟩

set_option maxRecDepth 100000 in
set_option maxHeartbeats 1000000 in
theorem qSwap_any (base g : Nat) (v : Value) (l : List Blk) (i j : Nat) (w : World) (h : QAt w base g v l) (hi : i < l.length) (hj : j < l.length) :
    Calls Tryd.prog 115 #[qv g, .int .i64 (i : Int), .int .i64 (j : Int)] w fun e w' => e = .returned (.tuple #[]) ∧ Waits w base g v (swp2 l i j) v w' := by
  have S := fun o => swap_any base g v l i j _ (h.below (grew_one w o).below) hi hj
  have hW := fun o => h.waits (grew_one w o).below
  have hM := run_mSwap g
  clear h
  unfold qv qcs mSize mSwap mPush mPop mLess
  go_enter Tryd.func115, Tryd.ntmps115
  go_wp2_with (go_at_call 71; refine (S _).mono ?_; rintro e w1 ⟨rfl, g1⟩)
  go_end0
  exact ⟨rfl, (hW _).trans g1⟩

set_option maxRecDepth 100000 in
set_option maxHeartbeats 1000000 in
theorem qPush_any (base g : Nat) (v : Value) (l : List Blk) (b : Blk) (w : World) (h : QAt w base g v l) (hl : l.length ≤ 1000) (hb : base ≤ w.heap.size) :
    Calls Tryd.prog 114 #[qv g, .iface 32 (bval b)] w fun e w' => e = .returned (.tuple #[]) ∧ ∃ v', Waits w base g v (l ++ [b]) v' w' := by
  have S := fun o o' => push_any base g v l b _ ((h.below (grew_one w o).below).below (grew_one _ o').below) hl (Nat.le_trans hb (Nat.le_trans (grew_one w o).below.size (grew_one _ o').below.size))
  have hW := fun o o' => (h.waits (grew_one w o).below).trans ((h.below (grew_one w o).below).waits (grew_one _ o').below)
  have hM := run_mPush g
  have hA := run_assert
  clear h
  obtain ⟨x, o⟩ := b
  unfold bval enc2 at *
  simp only at *
  unfold qv qcs mSize mSwap mPush mPop mLess
  go_enter Tryd.func114, Tryd.ntmps114
  go_wp2_with (go_at_call 72; refine (S _ _).mono ?_; rintro e w1 ⟨rfl, v', g1⟩)
  go_end0
  exact ⟨rfl, v', (hW _ _).trans g1⟩

set_option maxRecDepth 100000 in
set_option maxHeartbeats 1000000 in
theorem qPop_any (base g : Nat) (v : Value) (l : List Blk) (m : Nat) (w : World) (h : QAt w base g v l) (hl : l.length = m + 1) (h2 : m ≤ 1000) :
    Calls Tryd.prog 113 #[qv g] w fun e w' => e = .returned (.iface 32 (bval (nth l m))) ∧ ∃ v', Waits w base g v (l.take m) v' w' := by
  have S := fun o => pop_any base g v l m _ (h.below (grew_one w o).below) hl h2
  have hW := fun o => h.waits (grew_one w o).below
  have hM := run_mPop g
  obtain ⟨⟨x, o⟩, hx⟩ : ∃ x, x = nth l m := ⟨_, rfl⟩
  rw [← hx] at S ⊢
  clear h hx
  unfold bval enc2 at *
  simp only at *
  unfold qv qcs mSize mSwap mPush mPop mLess
  go_enter Tryd.func113, Tryd.ntmps113
  go_wp2_with (go_at_call 73; refine (S _).mono ?_; rintro e w1 ⟨rfl, v', g1⟩)
  go_ret
  exact ⟨rfl, v', (hW _).trans g1⟩
end Go.Proofs.YthiijnanfiddpaaDoor

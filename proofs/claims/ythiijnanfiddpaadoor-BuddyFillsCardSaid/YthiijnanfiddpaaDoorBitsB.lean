/-
  What a map is in memory, and what New, Len and Get do: contracts, one a function.
-/
import Derived.Test.YthiijnanfiddpaaDoorBitsA
import Derived.Test.YthiijnanfiddpaaDoorBitsBytes
import Derived.Test.YthiijnanfiddpaaDoorVals
import Derived.Laws.ShiftsVarLaws
namespace Go.Proofs.YthiijnanfiddpaaDoor
open Go.RowKit

theorem Tryd.infoU64 : (Tryd.prog.info? 82).map (fun i => (i.zero, i.size, i.bytes)) = some (some (.int .u64 0), 1, 8) := by kernel_rfl

/-- Words as cells. -/
def wv (x : Nat) : Value := .int .u64 (x : Int)
def wvs (ws : List Nat) : List Value := ws.map wv
theorem wvs_length (ws : List Nat) : (wvs ws).length = ws.length := by simp [wvs]
theorem wvs_get {ws : List Nat} {j x : Nat} (h : ws[j]? = some x) : (wvs ws)[j]? = some (.int .u64 (x : Int)) := by simp [wvs, h, wv]
theorem wvs_set (ws : List Nat) (j x : Nat) : (wvs ws).set j (.int .u64 (x : Int)) = wvs (ws.set j x) := by simp [wvs, List.map_set, wv]
theorem wvs_zero (k : Nat) : (reps k (.int .u64 0)) = wvs (List.replicate k 0) := by simp [reps, wvs, wv]

/-- Block g is the map l, whose words are block h. -/
def MapAt (w : World) (g h : Nat) (l : List Bool) : Prop :=
  ∃ ws : List Nat, Whole w g 80 [.int .i64 (l.length : Int), .slice (some ⟨h, 0, none⟩) ws.length ws.length] ∧ Whole w h 82 (wvs ws) ∧ Words l ws ∧ l.length ≤ 4096
section
variable {w w' : World} {g h : Nat} {l : List Bool}
theorem MapAt.le (m : MapAt w g h l) : l.length ≤ 4096 := by
  obtain ⟨ws, _, _, _, hl⟩ := m
  exact hl
theorem MapAt.ne (m : MapAt w g h l) : g ≠ h := by
  obtain ⟨ws, h1, h2, _, _⟩ := m
  exact h1.ne h2 (by decide)
theorem MapAt.lt (m : MapAt w g h l) : g < w.heap.size ∧ h < w.heap.size := by
  obtain ⟨ws, h1, h2, _, _⟩ := m
  exact ⟨h1.lt, h2.lt⟩
theorem MapAt.keep (m : MapAt w g h l) (hg : w'.heap[g]? = w.heap[g]?) (hh : w'.heap[h]? = w.heap[h]?) : MapAt w' g h l := by
  obtain ⟨ws, h1, h2, h3⟩ := m
  exact ⟨ws, h1.keep hg, h2.keep hh, h3⟩
theorem MapAt.below (m : MapAt w g h l) (hb : Below w.heap.size w w') : MapAt w' g h l := m.keep (hb.block g m.lt.1) (hb.block h m.lt.2)
theorem MapAt.drew (m : MapAt w g h l) : MapAt w.drew g h l := m
end
theorem Tab.keep {w w' : World} (h : Tab w) (hk : w'.heap[0]? = w.heap[0]?) : Tab w' := fun i hi => (World.cell?_of_block (w := w) hk).trans (h i hi)
theorem Tab.lt {w : World} (h : Tab w) : 0 < w.heap.size := World.block_lt_of_cell? w _ (h 0 (by omega))
theorem Tab.below {w w' : World} (h : Tab w) (hb : Below w.heap.size w w') : Tab w' := h.keep (hb.block _ h.lt)
theorem Tab.drew {w : World} (h : Tab w) : Tab w.drew := h
/-- A block of the call's own is not the table's. -/
theorem Tab.beside {w w' : World} {r : Nat} (h : Tab w) (hg : w.grownBy w' (some r)) (hr : 0 ≠ r) : Tab w' := h.keep (hg.block _ h.lt (by simpa using hr))

/-- What New hands back. -/
def Makes (w : World) (l : List Bool) (e : Ending) (w' : World) : Prop := ∃ g h, e = .returned (.tuple #[.pointer (some ⟨g, 0, none⟩), .int .i64 0]) ∧ MapAt w' g h l ∧ w.heap.size ≤ g ∧ w.heap.size ≤ h ∧ Below w.heap.size w w'
def NoMap (w : World) (er : Int) (e : Ending) (w' : World) : Prop := e = .returned (.tuple #[.pointer none, .int .i64 er]) ∧ w = w'

set_option maxHeartbeats 400000 in
theorem new_no (n : Int) (w : World) (hn : n < 0 ∨ 4096 < n) : Calls Tryd.prog 27 #[.int .i64 n] w (NoMap w 1) := by
  by_cases h0 : n < 0
  · go_enter Tryd.func27, Tryd.ntmps27
    go_wp2
    go_ret2
    exact ⟨rfl, rfl⟩
  · have h2 : 4096 < n := by omega
    have h3 : decide (n < 0) = false := by simp; omega
    go_enter Tryd.func27, Tryd.ntmps27
    go_wp2
    go_ret2
    exact ⟨rfl, rfl⟩

set_option maxHeartbeats 400000 in
theorem new_yes (n : Nat) (w : World) (hn : n ≤ 4096) : Calls Tryd.prog 27 #[.int .i64 (n : Int)] w (Makes w (List.replicate n false)) := by
  have u := units_any n 64 (by omega) (by omega) (by omega) w
  rw [show n + 64 - 1 = n + 63 by omega] at u
  obtain ⟨k, hk⟩ : ∃ k, k = (n + 63) / 64 := ⟨_, rfl⟩
  rw [← hk] at u
  have hk2 : k ≤ 64 := by omega
  have hmk := run_makeV (P := Tryd.prog) Tryd.underlying77 Tryd.infoU64 rfl k (by omega) (by omega) w
  have h0 : decide ((n : Int) < 0) = false := by simp
  have h1 : decide (4096 < (n : Int)) = false := by simp; omega
  have Hk := Lib.hid hk
  clear hk
  go_enter Tryd.func27, Tryd.ntmps27
  go_wp2_with (go_at_call 49; refine u.mono ?_; rintro e w1 ⟨rfl, rfl⟩)
  go_ret2
  refine ⟨w.heap.size + 1, w.heap.size, by simp, ⟨List.replicate k 0, ?_, ?_, by rw [Hk.out]; exact words_zero n, by simpa using hn⟩, by omega, by omega, ((Below.refl _ _).alloc (Nat.le_refl _) _).alloc (by simp) _⟩
  · have := Whole.new (w.alloc (.cells (reps k (.int .u64 0)).toArray 82)) #[.int .i64 (n : Int), .slice (some ⟨w.heap.size, 0, none⟩) k k] 80
    simpa using this
  · rw [← wvs_zero]
    exact (Whole.new w _ _).alloc _
end Go.Proofs.YthiijnanfiddpaaDoor

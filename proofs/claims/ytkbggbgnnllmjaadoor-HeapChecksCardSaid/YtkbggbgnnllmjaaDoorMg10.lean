/-
  What the library's heap does with the blocks that wait, further: up, Init, Push and Pop: contracts, one a function.
  What goes out of what waits, and what comes in: the library's Pop and Push, and the queue's own calls: contracts, one a function.
  The queue of free blocks: it is made of a copy, the first one goes out, one comes in: contracts, one a function.
-/
import Derived.Test.YtkbggbgnnllmjaaDoorMg9
import Derived.Laws.EntriesVeiled
namespace Go.Proofs.YtkbggbgnnllmjaaDoor
open Go.RowKit

end Go.Proofs.YtkbggbgnnllmjaaDoor
namespace Go.Proofs.YtkbggbgnnllmjaaDoor
open Go.RowKit

theorem heap_swapped {l : List Blk} {n : Nat} (h : HeapFrom l l.length 0) (hn : l.length = n + 1) : HeapFrom (swp2 l 0 n) n 1 := fun j c hj hc hcn => by
  rw [nth_swp2 (by omega) (by omega), nth_swp2 (by omega) (by omega), if_neg (by omega), if_neg (by omega), if_neg (by omega), if_neg (by omega)]
  exact h j c (Nat.zero_le _) hc (by omega)
end Go.Proofs.YtkbggbgnnllmjaaDoor
namespace Go.Proofs.YtkbggbgnnllmjaaDoor
open Go.RowKit

/-- A block of two cells that is kept: what a walk asks of it. -/
theorem kept_cells {w : World} {r : Nat} {x y : Value} {t : TypeId} (h : Whole w r t [x, y]) : (∀ o, (w.alloc o).cell? ⟨r, 0, none⟩ = some x) ∧ (∀ o, (w.alloc o).cell? ⟨r, 1, none⟩ = some y) ∧ ∀ o j, (w.alloc o).frozen? ⟨r, j, none⟩ = false :=
  ⟨fun o => (h.alloc o).cell 0, fun o => (h.alloc o).cell 1, fun o j => (h.alloc o).free j⟩
set_option maxRecDepth 100000 in
set_option maxHeartbeats 400000 in
/-- slices.Clone of blocks. -/
theorem clone_any (A : Option Addr) (n c : Nat) (l : List Blk) (w : World) (h : RdS w A n l) (hn : n ≤ 1000) :
    Calls Tryd.prog 34 #[.slice A n c] w fun e w' => ∃ v, e = .returned v ∧ OwnB 38 w' w.heap.size v l ∧ Below w.heap.size w w' := by
  cases A with
  | none =>
    have h0 : n = 0 := by
      rcases Nat.eq_zero_or_pos n with h0 | h0
      · exact h0
      · obtain ⟨_, _, e, _⟩ := h.at_ h0
        cases e
    subst h0
    obtain rfl : l = [] := List.eq_nil_of_length_eq_zero h.len
    have q : ∀ W : World, (binOp .eql 24 (.slice none 0 c) (.slice none 0 0)).run Tryd.prog W = .ok (.bool true) W := fun W => run_isnil W _ _ _ _ _ Tryd.underlying24
    go_enter Tryd.func34, Tryd.ntmps34
    go_wp2
    go_ret
    exact ⟨_, rfl, OwnB.nil, Below.refl _ _⟩
  | some a =>
    have hB := (Below.refl w.heap.size w).alloc (Nat.le_refl _) (.cells #[] 38)
    have ho : OwnB 38 (w.alloc (.cells #[] 38)) w.heap.size (.slice (some ⟨w.heap.size, 0, none⟩) 0 0) [] := ⟨rfl, .inr ⟨w.heap.size, 0, #[], rfl, Nat.le_refl _, heap_alloc_new w _, Nat.le_refl _, by simp [maxLen], rfl, rfl⟩⟩
    obtain ⟨v', w', hap, happ⟩ := run_appB (P := Tryd.prog) w.heap.size 24 24 38 Tryd.underlying24 Tryd.infoBlk rfl _ [] ho (some a) n c l (h.below hB) (by simp; omega) hB.size
    rw [List.nil_append] at happ
    have hb2 := happ.below ho (Nat.le_refl _) hB.size hB
    have Ho := Lib.hid happ.1
    have q : ∀ W : World, (binOp .eql 24 (.slice (some a) n c) (.slice none 0 0)).run Tryd.prog W = .ok (.bool false) W := fun W => run_isnil W _ _ _ _ _ Tryd.underlying24
    clear h happ ho
    go_enter Tryd.func34, Tryd.ntmps34
    go_wp2_with (at_builtin; refine wpList_append_run hap rfl _ _ rfl rfl rfl rfl ?_)
    go_ret
    exact ⟨_, rfl, Ho.out, hb2⟩

end Go.Proofs.YtkbggbgnnllmjaaDoor

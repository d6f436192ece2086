/-
  The library's SortFunc on a short row of numbers: contract.
-/
import Derived.Test.YtbfamijlaoopaaaVwFnC
import Derived.Test.YtbfamijlaoopaaaShelfV
namespace Go.Proofs.Ytbfamijlaoopaaa
open Go.RowKit Go.Sort
theorem bitslen0 (n : Nat) (W : World) (h : n ≤ 12) : Calls Try.prog 42 #[.int .u64 n] W fun e w' => (∃ l : Int, e = .returned (.int .i64 l)) ∧ w' = W := by
  have H : ∀ n : Nat, n ≤ 12 → Calls Try.prog 53 #[.int .u64 n] W fun e w' => (∃ l : Int, e = .returned (.int .i64 l)) ∧ w' = W := by
    intro n h
    rcases (by omega : n = 0 ∨ n = 1 ∨ n = 2 ∨ n = 3 ∨ n = 4 ∨ n = 5 ∨ n = 6 ∨ n = 7 ∨ n = 8 ∨ n = 9 ∨ n = 10 ∨ n = 11 ∨ n = 12) with rfl | rfl | rfl | rfl | rfl | rfl | rfl | rfl | rfl | rfl | rfl | rfl | rfl
    all_goals
      go_enter Try.func53, Try.ntmps53
      go_wp2
      go_ret
      exact ⟨⟨_, rfl⟩, rfl⟩
  have H1 := H n h
  clear H
  go_enter Try.func42, Try.ntmps42
  go_wp2_with (go_at_call 53; refine H1.mono ?_; rintro e w' ⟨⟨l, rfl⟩, rfl⟩)
  go_ret
  exact ⟨⟨_, rfl⟩, rfl⟩
theorem ltN (x y : Int) : ltOf cmpN x y = decide (x < y) := by
  unfold ltOf cmpN
  rw [Bool.eq_iff_iff, decide_eq_true_eq, decide_eq_true_eq]
  repeat' split <;> omega
theorem swoN : SWO (ltOf cmpN) where
  irrefl x := by rw [ltN]; simp
  trans x y z h1 h2 := by rw [ltN] at *; simp at *; omega
  ntrans x y z h1 h2 := by rw [ltN] at *; simp at *; omega
theorem whole_put {w : World} {g n : Nat} {t : TypeId} {l r : List Int} (h : Whole w g t (ivl l)) (hl : r.length = l.length) : Whole ((putRow (Value.int .i64) w g 0 r.toArray).drewN n) g t (ivl r) := by
  unfold Whole at h ⊢
  have : ((putRow (Value.int .i64) w g 0 r.toArray).drewN n).heap = (putRow (Value.int .i64) w g 0 r.toArray).heap := rfl
  rw [this]
  unfold putRow mapBlock
  simp only
  rw [Array.getElem?_modify, if_pos rfl, h]
  simp only [Option.map_some, onCells]
  congr 2
  unfold putCells
  apply Array.ext_getElem?
  intro i
  rw [Array.getElem?_mapIdx]
  simp only [List.getElem?_toArray, ivl, List.getElem?_map]
  by_cases hi : i < r.length
  · rw [List.getElem?_eq_getElem hi, List.getElem?_eq_getElem (by omega : i < l.length)]
    simp [hi]
  · rw [List.getElem?_eq_none (by omega : r.length ≤ i), List.getElem?_eq_none (by omega : l.length ≤ i)]
    rfl
theorem grown_put {w : World} {g n : Nat} (d : Array Int) : w.grownBy ((putRow (Value.int .i64) w g 0 d).drewN n) (some g) := by
  refine ⟨rfl, rfl, rfl, by simp [putRow, mapBlock], fun k hk hne => ?_⟩
  have : g ≠ k := fun e => hne (by rw [e])
  show (putRow (Value.int .i64) w g 0 d).heap[k]? = _
  simp [putRow, mapBlock, Array.getElem?_modify, this]
theorem reads0 (blk off size : Nat) (w : World) : CmpReads Try.prog 43 #[] (Value.int .i64) cmpN blk off size w :=
  fun _ _ _ _ x y => (against0 x y _).mono fun _ _ h => ⟨h.1, 0, h.2⟩
theorem holds_ivl {w : World} {g : Nat} {t : TypeId} {l : List Int} (h : Whole w g t (ivl l)) : Go.Sort.Holds (Value.int .i64) w g 0 l.toArray := by
  intro j hj
  rw [Nat.zero_add]
  simp only [List.size_toArray] at hj
  refine ⟨?_, h.free j⟩
  rw [h.cell, ivl, List.getElem?_map, List.getElem?_eq_getElem hj]
  simp [hj]
/-- SortFunc by the method expression: the same numbers, rising. -/
theorem sortn0 {g c : Nat} {l : List Int} {w : World} {t : TypeId} (h : Whole w g t (ivl l)) (h12 : l.length ≤ 12) : Calls Try.prog 32 #[.slice (some ⟨g, 0, none⟩) l.length c, agv] w fun e w' => e = .returned (.tuple #[]) ∧ ∃ r : List Int, r.Perm l ∧ r.Pairwise (· ≤ ·) ∧ Whole w' g t (ivl r) ∧ w.grownBy w' (some g) := by
  have eg : ∀ args w, (callFunc 43 args).run Try.prog w = .ok (.enter 43 args) w := enters_of Try.func43 (by kernel_rfl) rfl
  have hcon := Any.slices_SortFunc_small_sorted Try.sortN (Value.int .i64) (fun _ => rfl) cmpN swoN 43 #[] g 0 c l.toArray w eg (reads0 g 0 _ w) (holds_ivl h) (by simpa using h12) bitslen0
  change Calls Try.prog 32 _ _ _ at hcon
  rw [List.size_toArray] at hcon
  refine hcon.mono ?_
  rintro e w' ⟨he, d', n, hp, hs, rfl⟩
  obtain ⟨p1, _, p3⟩ := hp
  have hsz : d'.size = l.length := by rw [p1, List.size_toArray]
  have e1 : (d'.extract 0 l.length).toList = d'.toList := by rw [← hsz, Array.extract_size]
  have e2 : (l.toArray.extract 0 l.length).toList = l := by rw [← List.size_toArray, Array.extract_size]
  rw [e1, e2] at p3
  have hlen : d'.toList.length = l.length := p3.length_eq
  refine ⟨he, d'.toList, p3, ?_, ?_, grown_put _⟩
  · rw [List.pairwise_iff_getElem]
    intro i j hi hj hij
    simp only [Array.length_toList] at hi hj
    have := hs i j (Nat.zero_le _) hij (by omega)
    rw [ltN, getElem!_pos d' j hj, getElem!_pos d' i hi] at this
    simp only [Array.getElem_toList]
    have := of_decide_eq_false this
    omega
  · exact whole_put h hlen
end Go.Proofs.Ytbfamijlaoopaaa

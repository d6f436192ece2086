/-
  Appends of one cell; slices of the call's own that lie apart. Plain lemmas, no condition of their own.
-/
import Derived.Test.YtbfamijlaoopaaaBase
import Derived.Test.YtbfamijlaoopaaaVals
namespace Go.Proofs.Ytbfamijlaoopaaa
open Go.RowKit

theorem Try.infoIntL : (Try.prog.info? 3).map (fun i => (i.zero, i.size, i.bytes)) = some (some (.int .i64 0), 1, 8) := by kernel_rfl
theorem Try.infoStr : (Try.prog.info? 9).map (fun i => (i.zero, i.size, i.bytes)) = some (some (.string ⟨#[]⟩), 1, 16) := by kernel_rfl
/-- append(v, x), x in a block of its own. -/
theorem run_app_cell {P : Program} {w : World} (base : Nat) (t ty U : TypeId) (ht : P.underlying t = some (.slice U)) {z : Value} {m : Nat} (hinfo : (P.info? U).map (fun i => (i.zero, i.size, i.bytes)) = some (some z, 1, m)) (hz : z.cells.size = 1) (_hm0 : 0 < m) (hm : m ≤ 16)
    (v : Value) (l : List Value) (hown : OwnV U w base v l) (u : Value) (hu : u.oneCell' = true) (hle : l.length + 1 ≤ 1000000) (hbase : base ≤ w.heap.size) :
    ∃ v' w', (Builtin.append_ #[t, t] ty #[v, .slice (some ⟨w.heap.size, 0, none⟩) 1 1]).run P (w.alloc (.cells #[u] U)) = .ok v' w' ∧ OwnV U w' base v' (l ++ [u]) ∧ w.grownBy w' v.ownBlock ∧ (v'.ownBlock = v.ownBlock ∨ ∃ k, v'.ownBlock = some k ∧ w.heap.size ≤ k) := by
  obtain ⟨i0, hi, hz0, hz1, hz2⟩ := info_parts hinfo
  have hb1 : Below w.heap.size w (w.alloc (.cells #[u] U)) := (Below.refl _ _).alloc (Nat.le_refl _) _
  have ho : OwnV U (w.alloc (.cells #[u] U)) base v l := hown.below hb1
  have hW := Whole.new w #[u] U
  have hmm : (l.length + 1) * m ≤ 1000000 * 16 := Nat.mul_le_mul hle hm
  obtain ⟨v', w', hrun, k1, k2, _, k4⟩ := run_append_own_at (P := P) _ base t ty U i0 z 1 m ht hi hz0 hz1 hz2 hz (by omega) v l.length l ho ⟨w.heap.size, 0, none⟩ 1 1 [u] rfl
    (fun j x hj => by rw [add_plain, Nat.zero_add, hW.cell]; exact hj) (by simpa using hu) (by simp only [maxLen]; omega) (by omega) (Nat.le_trans hbase hb1.size)
  refine ⟨v', w', hrun, ?_, grown_trans (grown_below hb1 _) k2, ?_⟩
  · unfold OwnV
    rw [List.length_append]
    exact k1
  · rcases k4 with k4 | k4
    · exact .inl k4
    · exact .inr ⟨_, k4, hb1.size⟩
/-- Two slices of the call's own, of unlike elements, lie apart. -/
theorem own_apart {U U' : TypeId} {w : World} {base base' : Nat} {v v' : Value} {l l' : List Value} (h : OwnV U w base v l) (h' : OwnV U' w base' v' l') (hne : U ≠ U') {k : Nat} (hk : v.ownBlock = some k) : v'.ownBlock ≠ some k := by
  rcases h'.2 with ⟨rfl, _⟩ | ⟨g', cap', cur', rfl, _, hh', _⟩
  · simp [Value.ownBlock]
  · rcases h.2 with ⟨rfl, _⟩ | ⟨g, cap, cur, rfl, _, hh, _⟩
    · simp [Value.ownBlock] at hk
    · intro he
      have e1 : g = k := by simpa [Value.ownBlock] using hk
      have e2 : g' = k := by simpa [Value.ownBlock] using he
      subst e1
      subst e2
      rw [hh] at hh'
      injection hh' with hh'
      injection hh' with _ ht
      exact hne ht
/-- What grew in a block of one's own, or in a known one: so far only the known one and new ones. -/
theorem grown_own {a w w' : World} {g : Nat} {r : Option Nat} (h : a.grownBy w (some g)) (hg : w.grownBy w' r) (hr : ∀ k, r = some k → a.heap.size ≤ k ∨ k = g) : a.grownBy w' (some g) :=
  ⟨hg.os.trans h.os, hg.tape.trans h.tape, hg.output.trans h.output, Nat.le_trans h.size hg.size, fun i hi hne =>
    (hg.block i (Nat.lt_of_lt_of_le hi h.size) (fun e => by
      rcases hr i e.symm with q | q
      · omega
      · exact hne (by rw [q]))).trans (h.block i hi hne)⟩
theorem OwnV.formC {U : TypeId} {w : World} {base n : Nat} {v : Value} {l : List Value} (h : OwnV U w base v l) (hn : l.length = n) (h0 : 0 < n) : ∃ g c, v = .slice (some ⟨g, 0, none⟩) n c ∧ base ≤ g := by
  subst hn
  rcases h.2 with ⟨rfl, hn⟩ | ⟨g, cap, cur, rfl, hg, _⟩
  · omega
  · exact ⟨g, cap, rfl, hg⟩
/-- append(v, more...) of cells onto a slice of the call's own. -/
theorem run_app_row {P : Program} {w : World} (base : Nat) (t ty U : TypeId) (ht : P.underlying t = some (.slice U)) {z : Value} {b : Nat} (hinfo : (P.info? U).map (fun i => (i.zero, i.size, i.bytes)) = some (some z, 1, b)) (hz : z.cells.size = 1) (_hb0 : 0 < b) (hb : b ≤ 16)
    (v : Value) (l : List Value) (hown : OwnV U w base v l) (A : Option Addr) (m c : Nat) (news : List Value) (hr : RdV w A m news) (h1 : ∀ u ∈ news, u.oneCell' = true)
    (hle : l.length + m ≤ 1000000) (hbase : base ≤ w.heap.size) :
    ∃ v' w', (Builtin.append_ #[t, t] ty #[v, .slice A m c]).run P w = .ok v' w' ∧ OwnV U w' base v' (l ++ news) ∧ w.grownBy w' v.ownBlock := by
  obtain ⟨i0, hi, hz0, hz1, hz2⟩ := info_parts hinfo
  have hm : news.length = m := hr.len
  by_cases h0 : m = 0
  · subst h0
    obtain rfl : news = [] := List.eq_nil_of_length_eq_zero hm
    have hrun : (Builtin.append_ #[t, t] ty #[v, .slice A 0 c]).run P w = .ok v w := by
      rcases hown.2 with ⟨rfl, _⟩ | ⟨g, cap, cur, rfl, _, _, hnc, _⟩
      · cases A <;> simp [Builtin.append_, run_underlying ht, sizeOf, typeInfo, hi, Builtin.lenOf, Builtin.firstCells, loadCells, loadCellsFrom]
      · cases A <;> simp [Builtin.append_, run_underlying ht, sizeOf, typeInfo, hi, Builtin.lenOf, Builtin.firstCells, loadCells, loadCellsFrom, hnc, storeCells]
    exact ⟨v, w, hrun, by rw [List.append_nil]; exact hown, ⟨rfl, rfl, rfl, Nat.le_refl _, fun _ _ _ => rfl⟩⟩
  · obtain ⟨g, off, rfl, hgb, hc⟩ := hr.at_ (by omega)
    have hmm : (l.length + m) * b ≤ 1000000 * 16 := Nat.mul_le_mul hle hb
    obtain ⟨v', w', hrun, k1, k2, _, _⟩ := run_append_own_at (P := P) w base t ty U i0 z 1 b ht hi hz0 hz1 hz2 hz (by omega) v l.length l hown ⟨g, off, none⟩ m c news (by rw [hm]; omega)
      (fun j u hj => by rw [add_plain]; exact hc j u hj) h1 (by simp only [maxLen]; omega) (by omega) hbase
    refine ⟨v', w', hrun, ?_, k2⟩
    unfold OwnV
    rw [List.length_append, hm]
    exact k1
end Go.Proofs.Ytbfamijlaoopaaa

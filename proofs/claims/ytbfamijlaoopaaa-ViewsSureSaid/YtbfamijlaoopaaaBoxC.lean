/-
  A struct in a box of its own: allocated, boxed, stored, loaded, built; what each leaves, told without the world's own words. Plain lemmas over any program.
-/
import Derived.Test.YtbfamijlaoopaaaRowC
import Derived.Test.YtbfamijlaoopaaaRunArm
namespace Go.Proofs.Ytbfamijlaoopaaa
open Go.RowKit

/-- A block behind what was there. -/
structure NewC (w W : World) (t : TypeId) (cs : List Value) : Prop where
  whole : Whole W w.heap.size t cs
  below : Below w.heap.size w W
  size : W.heap.size = w.heap.size + 1
theorem newC (w : World) (t : TypeId) (cs : List Value) : NewC w (w.alloc (.cells cs.toArray t)) t cs := ⟨Whole.new w cs.toArray t, (Below.refl _ _).alloc (Nat.le_refl _) _, by simp⟩
section
variable {P : Program} {t : TypeId} {z : List Value} {K by_ : Nat}
theorem zero_run (hi : (P.info? t).map (fun i => (i.zero, i.size, i.bytes)) = some (some (.agg z.toArray), K, by_)) (w : World) : (zeroValue t).run P w = .ok (.agg z.toArray) w := by
  obtain ⟨i0, hi, hz0, _, _⟩ := info_parts hi
  simp [zeroValue, typeInfo, hi, hz0]
theorem size_run (hi : (P.info? t).map (fun i => (i.zero, i.size, i.bytes)) = some (some (.agg z.toArray), K, by_)) : (P.info? t).map (·.size) = some K := by
  obtain ⟨i0, hi, _, h1, _⟩ := info_parts hi
  rw [hi, Option.map_some, h1]
theorem boxC (w : World) (cs : List Value) : ∃ W, (Instr.box t (.agg cs.toArray)).run P w = .ok (.pointer (some ⟨w.heap.size, 0, none⟩)) W ∧ NewC w W t cs := by
  refine ⟨_, ?_, newC w t cs⟩
  have h : (newVar t (.agg cs.toArray)).run P w = .ok ⟨w.heap.size, 0, none⟩ (w.alloc (.cells cs.toArray t)) := by
    unfold newVar Value.cells
    generalize cs.toArray = c
    simp [newRow]
  simp only [Instr.box, Sem.run_bind, Result.andThen_ok, h, Sem.run_pure]
/-- new(T), and what a store of it all then leaves. -/
theorem allocC (hi : (P.info? t).map (fun i => (i.zero, i.size, i.bytes)) = some (some (.agg z.toArray), K, by_)) (hz : z.length = K) (w : World) : ∃ W, (Instr.alloc t true (.tuple #[])).run P w = .ok (.pointer (some ⟨w.heap.size, 0, none⟩)) W ∧ NewC w W t z ∧
    ∀ cs : List Value, cs.length = K → (∀ u ∈ cs, u.oneCell' = true) → ∃ W2, (Instr.storeAt t (.pointer (some ⟨w.heap.size, 0, none⟩)) (.agg cs.toArray)).run P W = .ok () W2 ∧ NewC w W2 t cs := by
  refine ⟨_, ?_, newC w t z, fun cs hl h1 => ⟨_, run_storeAt_new w t z.toArray cs.toArray (by simp [size_run hi, hl]) (by simp [hz, hl]) (all_oneCell_toArray h1), newC w t cs⟩⟩
  have h : (newVar t (.agg z.toArray)).run P w = .ok ⟨w.heap.size, 0, none⟩ (w.alloc (.cells z.toArray t)) := by
    unfold newVar Value.cells
    generalize z.toArray = c
    simp [newRow]
  simp only [Instr.alloc, Sem.run_bind, zero_run hi, Result.andThen_ok, h, Sem.run_pure]
/-- A store over a whole block. -/
theorem storeC (hs : (P.info? t).map (·.size) = some K) {w : World} {b : Nat} {t' : TypeId} {old : List Value} (h : Whole w b t' old) (ho : old.length = K) {cs : List Value} (hl : cs.length = K) (h1 : ∀ u ∈ cs, u.oneCell' = true) :
    ∃ w', (Instr.storeAt t (.pointer (some ⟨b, 0, none⟩)) (.agg cs.toArray)).run P w = .ok () w' ∧ Whole w' b t' cs ∧ w.grownBy w' (some b) := by
  have ht : w.there b 0 cs.toArray.size := fun j hj => ⟨by rw [Nat.zero_add, h.cell, List.getElem?_eq_getElem (by simp at hj; omega)]; rfl, h.free _⟩
  refine ⟨_, run_storeAt_mid (P := P) w b 0 t cs.toArray ht (by simp [hs, hl]) (all_oneCell_toArray h1), ?_, grown_sets b _ 0 w⟩
  have := h.sets (vs := cs) (o := 0)
  rw [layL_eq (by omega), List.take_zero, List.nil_append, List.drop_of_length_le (by omega), List.append_nil] at this
  exact this
theorem rangeC {w : World} {b : Nat} {t' : TypeId} {cs : List Value} (h : Whole w b t' cs) : w.rangeAt b 0 cs := fun j x hx => by rw [Nat.zero_add, h.cell, hx]
theorem loadC {d : TypeDesc} (hu : P.underlying t = some d) (hd : d.isRow = true) {cs : List Value} (hs : (P.info? t).map (·.size) = some cs.length) {w : World} {b o : Nat} (h : w.rangeAt b o cs) :
    (Instr.loadAt t (.pointer (some ⟨b, o, none⟩))).run P w = .ok (.agg cs.toArray) w := run_loadAt_mid w b o t cs _ h hu hd hs
/-- Results: a struct in its cell, and a value. -/
theorem results_ctC {fn : Func} {p q : Tmp} {ty : TypeId} (h : fn.results = #[.cell p ty, .tmp q]) (tmps : Array Value) (w : World) (g : Nat) (cs : List Value) (tb : TypeId) (d : TypeDesc)
    (hp : tmps.getD p undef = .pointer (some ⟨g, 0, none⟩)) (hg : Whole w g tb cs) (hu : P.underlying ty = some d) (hd : d.isRow = true) (hi : (P.info? ty).map (·.size) = some cs.length) :
    (results fn tmps).run P w = .ok (.tuple #[.agg cs.toArray, tmps.getD q undef]) w := by
  have hp' : tmps[p]?.getD undef = .pointer (some ⟨g, 0, none⟩) := by simpa using hp
  have hl := run_loadVar_mid (P := P) w g 0 ty cs d (rangeC hg) hu hd hi
  simp [results, h, hp', asAddr, hl]
/-- Results: two structs in their cells. -/
theorem results_ccC {fn : Func} {p q : Tmp} {ty ty2 : TypeId} (h : fn.results = #[.cell p ty, .cell q ty2]) (tmps : Array Value) (w : World) (g g2 : Nat) (cs cs2 : List Value) (tb tb2 : TypeId) (d d2 : TypeDesc)
    (hp : tmps.getD p undef = .pointer (some ⟨g, 0, none⟩)) (hg : Whole w g tb cs) (hu : P.underlying ty = some d) (hd : d.isRow = true) (hi : (P.info? ty).map (·.size) = some cs.length)
    (hq : tmps.getD q undef = .pointer (some ⟨g2, 0, none⟩)) (hg2 : Whole w g2 tb2 cs2) (hu2 : P.underlying ty2 = some d2) (hd2 : d2.isRow = true) (hi2 : (P.info? ty2).map (·.size) = some cs2.length) :
    (results fn tmps).run P w = .ok (.tuple #[.agg cs.toArray, .agg cs2.toArray]) w := by
  have hp' : tmps[p]?.getD undef = .pointer (some ⟨g, 0, none⟩) := by simpa using hp
  have hq' : tmps[q]?.getD undef = .pointer (some ⟨g2, 0, none⟩) := by simpa using hq
  have hl := run_loadVar_mid (P := P) w g 0 ty cs d (rangeC hg) hu hd hi
  have hl2 := run_loadVar_mid (P := P) w g2 0 ty2 cs2 d2 (rangeC hg2) hu2 hd2 hi2
  simp [results, h, hp', hq', asAddr, hl, hl2]
end
end Go.Proofs.Ytbfamijlaoopaaa

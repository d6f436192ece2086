/-
  Rows of the call's own, of so many cells an element: what keeps them, a row that is known whole, cells laid over others. Plain lemmas over any program.
-/
import Derived.Test.YtbfamijlaoopaaaOth
import Derived.Deep.MidRow
namespace Go.Proofs.Ytbfamijlaoopaaa
open Go.RowKit

/-- An append that adds no element changes nothing. -/
theorem run_app_none {P : Program} {w : World} {base size n : Nat} {t ty U : TypeId} (ht : P.underlying t = some (.slice U)) {i0 : TypeInfo} (hi : P.info? U = some i0) {v : Value} {xs : List Value} (hown : w.ownsRow base U size v n xs) (A : Option Addr) (c : Nat) :
    (Builtin.append_ #[t, t] ty #[v, .slice A 0 c]).run P w = .ok v w := by
  rcases hown.2 with ⟨rfl, _⟩ | ⟨g, cap, cur, rfl, _, _, hnc, _⟩
  · cases A <;> simp [Builtin.append_, run_underlying ht, sizeOf, typeInfo, hi, Builtin.lenOf, Builtin.firstCells, loadCells, loadCellsFrom]
  · cases A <;> simp [Builtin.append_, run_underlying ht, sizeOf, typeInfo, hi, Builtin.lenOf, Builtin.firstCells, loadCells, loadCellsFrom, hnc, storeCells]
section
variable {U : TypeId} {w w' : World} {base : Nat} {v : Value}
theorem row_keep {U : TypeId} {s n : Nat} {xs : List Value} (h : w.ownsRow base U s v n xs) (hb : ∀ k, v.ownBlock = some k → w'.heap[k]? = w.heap[k]?) : w'.ownsRow base U s v n xs := by
  refine ⟨h.1, ?_⟩
  rcases h.2 with h2 | ⟨g, cap, cur, rfl, hg, hh, r⟩
  · exact .inl h2
  · exact .inr ⟨g, cap, cur, rfl, hg, by rw [hb g rfl]; exact hh, r⟩
theorem row_type {s n : Nat} {xs : List Value} (h : w.ownsRow base U s v n xs) {k : Nat} (hk : v.ownBlock = some k) : ∃ cur, w.heap[k]? = some (.cells cur U (0, 0)) := by
  rcases h.2 with ⟨rfl, _⟩ | ⟨g, cap, cur, rfl, hg, hh, _⟩
  · cases hk
  · injection hk with hk
    subst hk
    exact ⟨cur, hh⟩
theorem OwnV.oneCell {l : List Value} (h : OwnV U w base v l) : v.oneCell' = true := by
  rcases h.2 with ⟨rfl, _⟩ | ⟨g, cap, cur, rfl, _⟩ <;> rfl
end
def layL : List Value → Nat → List Value → List Value
  | cs, _, [] => cs
  | cs, o, v :: r => layL (cs.set o v) (o + 1) r
theorem layL_eq : ∀ {vs cs : List Value} {o : Nat}, o + vs.length ≤ cs.length → layL cs o vs = cs.take o ++ vs ++ cs.drop (o + vs.length)
  | [], cs, o, h => by simp [layL]
  | v :: r, cs, o, h => by
    rw [List.length_cons] at h
    rw [layL, layL_eq (by rw [List.length_set]; omega)]
    have ho : o < cs.length := by omega
    rw [List.take_add_one, List.getElem?_set_self ho, List.take_set_of_le (Nat.le_refl _), List.drop_set, if_pos (by omega), List.length_cons]
    simp only [Option.toList_some]
    rw [show o + 1 + r.length = o + (r.length + 1) by omega]
    simp
theorem Whole.sets {g : Nat} {t : TypeId} : ∀ {vs cs : List Value} {o : Nat} {w : World}, Whole w g t cs → Whole (w.setCells g o vs) g t (layL cs o vs)
  | [], _, _, _, h => h
  | v :: r, _, o, _, h => by
    have := Whole.sets (vs := r) (o := o + 1) (h.set o v)
    exact this
theorem grown_sets (g : Nat) : ∀ (vs : List Value) (o : Nat) (w : World), w.grownBy (w.setCells g o vs) (some g)
  | [], _, w => grown_refl w _
  | v :: r, o, w => grown_trans (grown_set w g o v) (grown_sets g r (o + 1) _)
/-- A row of the call's own is known whole. -/
theorem row_whole {U : TypeId} {w : World} {base sz n c g : Nat} {xs : List Value} (h : w.ownsRow base U sz (.slice (some ⟨g, 0, none⟩) n c) n xs) :
    ∃ post, Whole w g U (xs ++ post) ∧ (xs ++ post).length = c * sz ∧ n ≤ c ∧ c ≤ maxLen ∧ base ≤ g := by
  rcases h.2 with ⟨h2, _⟩ | ⟨g', cap, cur, hv, hg, hh, hc, hm, hs, ht⟩
  · cases h2
  · injection hv with e1 e2 e3
    injection e1 with e1
    injection e1 with e1
    subst e1 e3
    have hsz : cur.toList.length = c * sz := by simpa using hs
    have hle : n * sz ≤ c * sz := Nat.mul_le_mul_right _ hc
    have e : xs ++ cur.toList.drop (n * sz) = cur.toList := by rw [← ht, List.take_append_drop]
    refine ⟨cur.toList.drop (n * sz), ?_, by rw [e, hsz], hc, hm, hg⟩
    rw [e]
    unfold Whole
    rw [hh]
theorem whole_row {U : TypeId} {w : World} {base sz n c g : Nat} {xs post : List Value} (h : Whole w g U (xs ++ post)) (hl : xs.length = n * sz) (hc : (xs ++ post).length = c * sz) (hn : n ≤ c) (hm : c ≤ maxLen) (hg : base ≤ g) : w.ownsRow base U sz (.slice (some ⟨g, 0, none⟩) n c) n xs :=
  ⟨hl, .inr ⟨g, c, (xs ++ post).toArray, rfl, hg, h, hn, hm, by simpa using hc, by simp [← hl]⟩⟩

end Go.Proofs.Ytbfamijlaoopaaa

/-
  Structs and slices of structs that came in, as a row's frame opens them. Plain lemmas.
-/
import Derived.Test.YtbfamijlaoopaaaRowC
import Derived.Deep.Slices
import Derived.Lib.SmallJoins
import Derived.ChangeSame
namespace Go.Proofs.Ytbfamijlaoopaaa
open Go.ChangeShapes Go.WideShapes Go.Deep Go.Joins Go.RowKit

section
variable {H : Type} {enc : TypeId × Value → H} {w : World}
theorem fld_open {P : Program} {b0 : Nat} {sp : Nat → Bool} {hd : Bool} {t : TypeId} {fs : Array Field} {cs : List Value} {fuel : Nat} {x : DataW H × List MemPlace} (ht : P.underlying t = some (.struct fs)) (h : DataW.trod enc P w b0 sp hd fuel t cs = some x) {i : Nat} {f : Field} (hf : fs[i]? = some f) {T : TypeId} {o k : Nat} (hT : f.type = T) (ho : f.offset = o) (hk : P.cellsOf T = k) :
    ∃ n y, DataW.trod enc P w b0 sp hd n T ((cs.drop o).take k) = some y := by
  subst hT ho hk
  obtain ⟨xs, n, _, _, _, hxl, hg⟩ := DataW.trod_struct ht h
  have hi : i < fs.size := (Array.getElem?_eq_some_iff.1 hf).1
  exact ⟨n, xs[i]'(by omega), by rw [hg i f hf, List.getElem?_eq_getElem]⟩
theorem len_open {P : Program} {b0 : Nat} {sp : Nat → Bool} {hd : Bool} {t : TypeId} {fs : Array Field} {cs : List Value} {fuel : Nat} {x : DataW H × List MemPlace} (ht : P.underlying t = some (.struct fs)) (h : DataW.trod enc P w b0 sp hd fuel t cs = some x) : cs.length = P.cellsOf t := by
  obtain ⟨xs, n, _, _, hl, _, _⟩ := DataW.trod_struct ht h
  exact hl
theorem get_open {cs : List Value} {o : Nat} {v : Value} (h : (cs.drop o).take 1 = [v]) : cs[o]? = some v := by
  have h1 : ((cs.drop o).take 1)[0]? = some v := by rw [h]; rfl
  rw [List.getElem?_take, if_pos (by omega), List.getElem?_drop] at h1
  simpa using h1
theorem gets_open {cs vs : List Value} {o n : Nat} (h : (cs.drop o).take n = vs) {j : Nat} {v : Value} (hv : vs[j]? = some v) : cs[o + j]? = some v := by
  rw [← h, List.getElem?_take] at hv
  split at hv
  · rw [List.getElem?_drop] at hv
    exact hv
  · cases hv
/-- A slice of structs came in. -/
theorem rows_of {α : Type} {f : α → List Value} {K : Nat} (hf : ∀ x, (f x).length = K) (hK : 0 < K) {Ok : α → Prop} {t e : TypeId} (ht : Try.prog.underlying t = some (.slice e)) (hc : Try.prog.cellsOf e = K)
    (hel : ∀ {cs : List Value} {fuel : Nat} {x : DataW H × List MemPlace}, DataW.trod enc Try.prog w 0 (fun _ => true) true fuel e cs = some x → ∃ y, cs = f y ∧ Ok y) {A : Option Addr} {len cap fuel : Nat} {x : DataW H × List MemPlace}
    (h : DataW.trod enc Try.prog w 0 (fun _ => true) true fuel t [.slice A len cap] = some x) : ∃ l : List α, l.length = len ∧ RdC w A len K (l.flatMap f) ∧ (∀ y ∈ l, Ok y) ∧ len ≤ cap := by
  rcases open_slice ht h with ⟨hcs, _⟩ | ⟨a, len', cap', m, n, D, Pl, hcs, _, hl, _, hm, _, hi⟩
  · simp at hcs
    obtain ⟨rfl, rfl, rfl⟩ := hcs
    exact ⟨[], rfl, RdC.nil, (fun y hy => by cases hy), Nat.le_refl _⟩
  · simp at hcs
    obtain ⟨rfl, rfl, rfl⟩ := hcs
    simp only [if_true] at hm
    subst hm
    have key : ∀ i, i < m → ∃ y, Ok y ∧ ∀ (j : Nat) (u : Value), (f y)[j]? = some u → w.cell? ((a.add (i * K)).add j) = some u := fun i hlt => by
      obtain ⟨cs, hcc, ht'⟩ := hi i hlt
      rw [hc] at hcc
      obtain ⟨_, hcl, hat⟩ := World.cells?_some hcc
      obtain ⟨y, rfl, hy⟩ := hel ht'
      refine ⟨y, hy, fun j u hu => ?_⟩
      have hj : j < K := by rw [← hf y]; exact (List.getElem?_eq_some_iff.1 hu).1
      have z := hat j hj
      rw [hu] at z
      simpa [Addr.add] using z
    have key2 : ∀ k, k ≤ m → ∃ l : List α, l.length = k ∧ (∀ y ∈ l, Ok y) ∧ ∀ i y, l[i]? = some y → ∀ (j : Nat) (u : Value), (f y)[j]? = some u → w.cell? ((a.add (i * K)).add j) = some u := by
      intro k
      induction k with
      | zero => intro _; exact ⟨[], rfl, (fun y hy => by cases hy), fun i y hy => by simp at hy⟩
      | succ k ih =>
        intro hk
        obtain ⟨l, h1, h2, h3⟩ := ih (by omega)
        obtain ⟨y, hy, hyc⟩ := key k (by omega)
        refine ⟨l ++ [y], by simp [h1], fun z hz => ?_, fun i z hz => ?_⟩
        · rcases List.mem_append.1 hz with q | q
          · exact h2 z q
          · rw [List.mem_singleton.1 q]; exact hy
        · by_cases hik : i < k
          · rw [List.getElem?_append_left (by omega)] at hz
            exact h3 i z hz
          · have hlt := (List.getElem?_eq_some_iff.1 hz).1
            simp [h1] at hlt
            obtain rfl : i = k := by omega
            rw [List.getElem?_append_right (by omega), h1, Nat.sub_self] at hz
            simp at hz
            subst hz
            exact hyc
    obtain ⟨l, h1, h2, h3⟩ := key2 len hl
    refine ⟨l, h1, ⟨by rw [fm_len hf, h1], fun h0 => ?_⟩, h2, hl⟩
    obtain ⟨b, off, spot⟩ := a
    have hg := List.getElem?_eq_getElem (show 0 < l.length by omega)
    have hf0 : 0 < (f l[0]).length := by rw [hf]; exact hK
    have hk := h3 0 _ hg 0 _ (List.getElem?_eq_getElem hf0)
    have hspot : spot = none := by simpa [Addr.add] using World.cell?_spot hk
    subst hspot
    have hlt : b < w.heap.size := by
      have := World.block_lt_of_cell? w _ hk
      simpa [Addr.add] using this
    refine ⟨b, off, rfl, hlt, fun j u hu => ?_⟩
    obtain ⟨y, hy, hu'⟩ := fm_at hf hK hu
    have := h3 _ y hy _ u hu'
    simp only [add_plain] at this
    rw [show off + j = off + j / K * K + j % K by rw [Nat.add_assoc, Nat.div_add_mod']]
    exact this
theorem slice_form {t e : TypeId} (ht : Try.prog.underlying t = some (.slice e)) {cs : List Value} {fuel : Nat} {x : DataW H × List MemPlace} (h : DataW.trod enc Try.prog w 0 (fun _ => true) true fuel t cs = some x) : ∃ A n c, cs = [.slice A n c] := by
  rcases open_slice ht h with ⟨hcs, _⟩ | ⟨a, len', cap', _, _, _, _, hcs, _⟩
  · exact ⟨_, _, _, hcs⟩
  · exact ⟨_, _, _, hcs⟩
end
end Go.Proofs.Ytbfamijlaoopaaa

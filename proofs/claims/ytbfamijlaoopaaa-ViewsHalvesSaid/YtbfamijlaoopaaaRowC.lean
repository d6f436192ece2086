/-
  Rows of elements of so many cells each: as lists, as slices that read so, as rows of the call's own. Plain lemmas over any program.
-/
import Derived.Test.YtbfamijlaoopaaaVals
import Derived.Test.YtbfamijlaoopaaaRowK
import Derived.Deep.WholeRow
import Derived.Laws.StructEq
import Derived.Lib.SliceRun
namespace Go.Proofs.Ytbfamijlaoopaaa
open Go.RowKit

/-! ### Rows of elements of so many cells each -/
section
variable {α : Type} {f : α → List Value} {K : Nat}
theorem fm_len (hf : ∀ x, (f x).length = K) : ∀ l : List α, (l.flatMap f).length = l.length * K
  | [] => by simp
  | x :: r => by rw [List.flatMap_cons, List.length_append, hf, fm_len hf r, List.length_cons, Nat.add_mul]; omega
theorem fm_take (hf : ∀ x, (f x).length = K) (l : List α) (k : Nat) : (l.flatMap f).take (k * K) = (l.take k).flatMap f := by
  by_cases h : k ≤ l.length
  · have e : l.flatMap f = (l.take k).flatMap f ++ (l.drop k).flatMap f := by rw [← List.flatMap_append, List.take_append_drop]
    have hl : ((l.take k).flatMap f).length = k * K := by rw [fm_len hf, List.length_take, Nat.min_eq_left h]
    rw [e, List.take_append_of_le_length (by omega), List.take_of_length_le (by omega)]
  · have h1 : l.length * K ≤ k * K := Nat.mul_le_mul_right _ (by omega)
    rw [List.take_of_length_le (by rw [fm_len hf]; exact h1), List.take_of_length_le (by omega)]
theorem fm_drop (hf : ∀ x, (f x).length = K) (l : List α) (k : Nat) : (l.flatMap f).drop (k * K) = (l.drop k).flatMap f := by
  by_cases h : k ≤ l.length
  · have e : l.flatMap f = (l.take k).flatMap f ++ (l.drop k).flatMap f := by rw [← List.flatMap_append, List.take_append_drop]
    have hl : ((l.take k).flatMap f).length = k * K := by rw [fm_len hf, List.length_take, Nat.min_eq_left h]
    rw [e, List.drop_append_of_le_length (by omega), List.drop_of_length_le (by omega), List.nil_append]
  · have h1 : l.length * K ≤ k * K := Nat.mul_le_mul_right _ (by omega)
    rw [List.drop_of_length_le (by rw [fm_len hf]; exact h1), List.drop_of_length_le (by omega)]
    rfl
theorem fm_get (hf : ∀ x, (f x).length = K) {l : List α} {j : Nat} {x : α} (h : l[j]? = some x) {i : Nat} {u : Value} (hu : (f x)[i]? = some u) : (l.flatMap f)[j * K + i]? = some u := by
  obtain ⟨hj, rfl⟩ := List.getElem?_eq_some_iff.1 h
  have hi : i < (f l[j]).length := (List.getElem?_eq_some_iff.1 hu).1
  have e := fm_drop hf l j
  rw [List.drop_eq_getElem_cons hj, List.flatMap_cons] at e
  rw [← List.getElem?_drop, e, List.getElem?_append_left hi, hu]
theorem fm_at (hf : ∀ x, (f x).length = K) (hK : 0 < K) {l : List α} {j : Nat} {u : Value} (h : (l.flatMap f)[j]? = some u) : ∃ x, l[j / K]? = some x ∧ (f x)[j % K]? = some u := by
  have hl : j < (l.flatMap f).length := (List.getElem?_eq_some_iff.1 h).1
  rw [fm_len hf] at hl
  have hj : j / K < l.length := Nat.div_lt_of_lt_mul (by rw [Nat.mul_comm]; exact hl)
  refine ⟨l[j / K], List.getElem?_eq_getElem hj, ?_⟩
  have hi : j % K < (f l[j / K]).length := by rw [hf]; exact Nat.mod_lt _ hK
  have e := fm_get hf (List.getElem?_eq_getElem hj) (List.getElem?_eq_getElem hi)
  rw [Nat.div_add_mod' j K, h] at e
  rw [List.getElem?_eq_getElem hi]
  exact e.symm
theorem fm_one (h : ∀ x, ∀ u ∈ f x, u.oneCell' = true) (l : List α) : ∀ u ∈ l.flatMap f, u.oneCell' = true := by
  intro u hu
  obtain ⟨x, _, hx⟩ := List.mem_flatMap.1 hu
  exact h x u hx
end

theorem fm_set {α : Type} {f : α → List Value} {K : Nat} (hf : ∀ x, (f x).length = K) {i : Nat} {u : Value} (hi : i < K) : ∀ {l : List α} {k : Nat} {x y : α}, l[k]? = some x → f y = (f x).set i u → (l.set k y).flatMap f = (l.flatMap f).set (k * K + i) u
  | [], k, x, y, h, _ => by cases h
  | a :: r, 0, x, y, h, e => by
    obtain rfl : a = x := by simpa using h
    rw [List.set_cons_zero, List.flatMap_cons, List.flatMap_cons, e, Nat.zero_mul, Nat.zero_add, List.set_append_left _ _ (by rw [hf]; exact hi)]
  | a :: r, k + 1, x, y, h, e => by
    have h' : r[k]? = some x := by simpa using h
    rw [List.set_cons_succ, List.flatMap_cons, List.flatMap_cons, fm_set hf hi h' e, List.set_append_right _ _ (by rw [hf, Nat.add_mul]; omega), hf]
    congr 2
    rw [Nat.add_mul]
    omega
/-- A slice reads as these cells, so many an element. -/
structure RdC (w : World) (A : Option Addr) (n K : Nat) (cs : List Value) : Prop where
  len : cs.length = n * K
  at_ : 0 < n → ∃ b off, A = some ⟨b, off, none⟩ ∧ b < w.heap.size ∧ w.rangeAt b off cs
section
variable {w w' : World} {A : Option Addr} {n K : Nat} {cs : List Value}
theorem RdC.nil : RdC w A 0 K [] := ⟨by simp, fun h => absurd h (by omega)⟩
theorem RdC.keep (h : RdC w A n K cs) (hk : ∀ b off, A = some ⟨b, off, none⟩ → b < w.heap.size → w'.heap[b]? = w.heap[b]?) (hs : w.heap.size ≤ w'.heap.size) : RdC w' A n K cs :=
  ⟨h.len, fun hn => by
    obtain ⟨b, off, e, hb, hc⟩ := h.at_ hn
    exact ⟨b, off, e, Nat.lt_of_lt_of_le hb hs, fun j x hx => (World.cell?_of_block (hk b off e hb)).trans (hc j x hx)⟩⟩
theorem RdC.below (h : RdC w A n K cs) (hb : Below w.heap.size w w') : RdC w' A n K cs := h.keep (fun _ _ _ hl => hb.block _ hl) hb.size
theorem RdC.drew (h : RdC w A n K cs) : RdC w.drew A n K cs := h.below (Below.refl _ _).drew
theorem RdC.oth {X : Nat → Prop} (h : RdC w A n K cs) (hO : Oth X w w') (hX : ∀ b off, A = some ⟨b, off, none⟩ → ¬ X b) : RdC w' A n K cs := h.keep (fun _ _ e hl => hO.block _ hl (hX _ _ e)) hO.size
theorem RdC.cell (h : RdC w A n K cs) {j i : Nat} (hj : j < n) (hi : i < K) : ∃ b off u, A = some ⟨b, off, none⟩ ∧ b < w.heap.size ∧ cs[j * K + i]? = some u ∧ w.cell? ⟨b, off + j * K + i, none⟩ = some u := by
  obtain ⟨b, off, e, hb, hc⟩ := h.at_ (by omega)
  have hl : j * K + i < cs.length := by
    rw [h.len]
    have := Nat.mul_le_mul_right K (show j + 1 ≤ n by omega)
    rw [Nat.add_mul] at this
    omega
  have hg := List.getElem?_eq_getElem hl
  exact ⟨b, off, _, e, hb, hg, by rw [Nat.add_assoc]; exact hc _ _ hg⟩
/-- b[i:j] -/
theorem RdC.cut (h : RdC w A n K cs) {i j c : Nat} (hi : i ≤ j) (hj : j ≤ n) (hc : n ≤ c) : RdC w (if c = i then A else A.map (·.add (i * K))) (j - i) K ((cs.drop (i * K)).take ((j - i) * K)) := by
  have hm : j * K ≤ n * K := Nat.mul_le_mul_right _ hj
  have hm2 : i * K + (j - i) * K = j * K := by rw [← Nat.add_mul]; congr 1; omega
  refine ⟨by rw [List.length_take, List.length_drop, h.len]; omega, fun hn => ?_⟩
  obtain ⟨b, off, rfl, hb, hcell⟩ := h.at_ (by omega)
  rw [if_neg (by omega)]
  refine ⟨b, off + i * K, by simp only [Option.map_some, add_plain], hb, fun q x hx => ?_⟩
  rw [Nat.add_assoc]
  refine hcell _ x ?_
  rw [List.getElem?_take] at hx
  split at hx
  · rw [← hx, List.getElem?_drop]
  · cases hx
end
/-- A row of the call's own reads as its cells. -/
theorem row_rd {U : TypeId} {w : World} {base K n : Nat} {v : Value} {xs : List Value} (h : w.ownsRow base U K v n xs) : ∃ A c, v = .slice A n c ∧ n ≤ c ∧ c ≤ maxLen ∧ RdC w A n K xs ∧ ∀ b off, A = some ⟨b, off, none⟩ → v.ownBlock = some b := by
  rcases h.2 with ⟨rfl, hn⟩ | ⟨g, cap, cur, rfl, hg, hh, hc, hm, _⟩
  · subst hn
    exact ⟨none, 0, rfl, Nat.le_refl _, by simp [maxLen], ⟨h.1, fun hp => absurd hp (by omega)⟩, fun b off e => by cases e⟩
  · refine ⟨_, cap, rfl, hc, hm, ⟨h.1, fun _ => ⟨g, 0, rfl, (Array.getElem?_eq_some_iff.1 hh).1, fun j x hx => ?_⟩⟩, fun b off e => ?_⟩
    · have := World.ownsRow.cells h (g := g) rfl j x hx
      rw [add_plain] at this
      exact this
    · injection e with e
      injection e with e
      subst e
      rfl
theorem row_mono {U : TypeId} {w : World} {base base' K n : Nat} {v : Value} {xs : List Value} (h : w.ownsRow base U K v n xs) (hb : base' ≤ base) : w.ownsRow base' U K v n xs := by
  refine ⟨h.1, ?_⟩
  rcases h.2 with h2 | ⟨g, cap, cur, hv, hg, r⟩
  · exact .inl h2
  · exact .inr ⟨g, cap, cur, hv, by omega, r⟩
theorem row_below {U : TypeId} {w w' : World} {base K n : Nat} {v : Value} {xs : List Value} (h : w.ownsRow base U K v n xs) (hb : Below w.heap.size w w') : w'.ownsRow base U K v n xs :=
  row_keep h fun k hk => hb.block k (World.ownsRow.lt h k hk).2
theorem row_oth {U : TypeId} {w w' : World} {base K n : Nat} {v : Value} {xs : List Value} {X : Nat → Prop} (h : w.ownsRow base U K v n xs) (hO : Oth X w w') (hX : ∀ k, v.ownBlock = some k → ¬ X k) : w'.ownsRow base U K v n xs :=
  row_keep h fun k hk => hO.block k (World.ownsRow.lt h k hk).2 (hX k hk)
theorem row_one {U : TypeId} {w : World} {base K n : Nat} {v : Value} {xs : List Value} (h : w.ownsRow base U K v n xs) : v.oneCell' = true := by
  rcases h.2 with ⟨rfl, _⟩ | ⟨g, cap, cur, rfl, _⟩ <;> rfl
/-- append(v, more...) onto a row of the call's own. -/
theorem run_appC {P : Program} {w : World} {base n K by_ : Nat} {t ty U : TypeId} (ht : P.underlying t = some (.slice U)) {z : Value} (hinfo : (P.info? U).map (fun i => (i.zero, i.size, i.bytes)) = some (some z, K, by_)) (hz : z.cells.size = K) (hK : 0 < K) (hby : by_ ≤ 256)
    {v : Value} {xs : List Value} (hown : w.ownsRow base U K v n xs) {A : Option Addr} {m : Nat} (c : Nat) {news : List Value} (hr : RdC w A m K news) (h1 : ∀ u ∈ news, u.oneCell' = true) (hle : n + m ≤ 1000000) (hbase : base ≤ w.heap.size) :
    ∃ v' w', (Builtin.append_ #[t, t] ty #[v, .slice A m c]).run P w = .ok v' w' ∧ w'.ownsRow base U K v' (n + m) (xs ++ news) ∧ w.grownBy w' v.ownBlock ∧ (v'.ownBlock = v.ownBlock ∨ v'.ownBlock = some w.heap.size) := by
  obtain ⟨i0, hi, hz0, hz1, hz2⟩ := info_parts hinfo
  by_cases h0 : m = 0
  · subst h0
    obtain rfl : news = [] := List.eq_nil_of_length_eq_zero (by rw [hr.len]; omega)
    exact ⟨v, w, run_app_none ht hi hown A c, by rw [List.append_nil]; exact hown, grown_refl _ _, .inl rfl⟩
  · obtain ⟨b, off, rfl, hb, hc⟩ := hr.at_ (by omega)
    have hmm : (n + m) * by_ ≤ 1000000 * 256 := Nat.mul_le_mul hle hby
    obtain ⟨v', w', hrun, k1, k2, _, k4⟩ := run_append_own_at (P := P) w base t ty U i0 z K by_ ht hi hz0 hz1 hz2 hz hK v n xs hown ⟨b, off, none⟩ m c news hr.len
      (fun j u hj => by rw [add_plain]; exact hc j u hj) h1 (by simp only [maxLen]; omega) (by omega) hbase
    exact ⟨v', w', hrun, k1, k2, k4⟩
/-- append(v, x), x's cells in a block of their own. -/
theorem run_appC1 {P : Program} {w : World} {base n K by_ : Nat} {t ty U : TypeId} (ht : P.underlying t = some (.slice U)) {z : Value} (hinfo : (P.info? U).map (fun i => (i.zero, i.size, i.bytes)) = some (some z, K, by_)) (hz : z.cells.size = K) (hK : 0 < K) (hby : by_ ≤ 256)
    {v : Value} {xs : List Value} (hown : w.ownsRow base U K v n xs) {news : List Value} {cs : Array Value} (hcs : cs = news.toArray) (hl : news.length = K) (h1 : ∀ u ∈ news, u.oneCell' = true) (hle : n + 1 ≤ 1000000) (hbase : base ≤ w.heap.size) :
    ∃ v' w', (Builtin.append_ #[t, t] ty #[v, .slice (some ⟨w.heap.size, 0, none⟩) 1 1]).run P (w.alloc (.cells cs U)) = .ok v' w' ∧ w'.ownsRow base U K v' (n + 1) (xs ++ news) ∧ w.grownBy w' v.ownBlock ∧ (v'.ownBlock = v.ownBlock ∨ ∃ k, v'.ownBlock = some k ∧ w.heap.size ≤ k) := by
  subst hcs
  have hb1 : Below w.heap.size w (w.alloc (.cells news.toArray U)) := (Below.refl _ _).alloc (Nat.le_refl _) _
  have hW := Whole.new w news.toArray U
  obtain ⟨v', w', hrun, k1, k2, k4⟩ := run_appC (ty := ty) ht hinfo hz hK hby (row_below hown hb1) (A := some ⟨w.heap.size, 0, none⟩) (m := 1) 1 (news := news) ⟨by omega, fun _ => ⟨_, 0, rfl, hW.lt, fun j u hj => by rw [Nat.zero_add, hW.cell]; exact hj⟩⟩ h1 hle (Nat.le_trans hbase hb1.size)
  refine ⟨v', w', hrun, k1, grown_trans (grown_below hb1 _) k2, ?_⟩
  rcases k4 with k4 | k4
  · exact .inl k4
  · exact .inr ⟨_, k4, hb1.size⟩

end Go.Proofs.Ytbfamijlaoopaaa

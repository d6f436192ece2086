/-
  Words for memory at any element type of one cell: a slice that reads as values, a slice of the call's own, a block that is known whole; make, append, clear and copy of them. Plain lemmas over any program.
-/
import Derived.Test.YtbfamijlaoopaaaMem
import Derived.Lib.SliceRun
namespace Go.Proofs.Ytbfamijlaoopaaa
open Go.RowKit

/-- The slice '.slice A n _' reads as the values xs, a cell each. -/
structure RdV (w : World) (A : Option Addr) (n : Nat) (xs : List Value) : Prop where
  len : xs.length = n
  at_ : 0 < n → ∃ b off, A = some ⟨b, off, none⟩ ∧ b < w.heap.size ∧ ∀ (j : Nat) (x : Value), xs[j]? = some x → w.cell? ⟨b, off + j, none⟩ = some x

section
variable {w w' : World} {A : Option Addr} {n : Nat} {l : List Value}
theorem RdV.nil : RdV w A 0 [] := ⟨rfl, fun h => absurd h (by omega)⟩
theorem RdV.keep (h : RdV w A n l) (hs : w.heap.size ≤ w'.heap.size) (hk : ∀ p : Addr, p.block < w.heap.size → w'.cell? p = w.cell? p) : RdV w' A n l :=
  ⟨h.len, fun hn => by
    obtain ⟨b, off, e, hb, hc⟩ := h.at_ hn
    exact ⟨b, off, e, by omega, fun j x hx => (hk ⟨b, off + j, none⟩ hb).trans (hc j x hx)⟩⟩
theorem RdV.below (h : RdV w A n l) (hb : Below w.heap.size w w') : RdV w' A n l := h.keep hb.size fun _ hp => hb.cell hp
theorem RdV.drew (h : RdV w A n l) : RdV w.drew A n l := h.below (Below.refl _ _).drew
theorem RdV.cell (h : RdV w A n l) {j : Nat} (hj : j < n) : ∃ b off x, A = some ⟨b, off, none⟩ ∧ b < w.heap.size ∧ l[j]? = some x ∧ w.cell? ⟨b, off + j, none⟩ = some x := by
  obtain ⟨b, off, e, hb, hc⟩ := h.at_ (by omega)
  have hl : j < l.length := by have := h.len; omega
  exact ⟨b, off, l[j], e, hb, List.getElem?_eq_getElem hl, hc j _ (List.getElem?_eq_getElem hl)⟩
end

/-- The slice v was made by the call itself (its block is 'base' or later) and holds the values xs. -/
def OwnV (U : TypeId) (w : World) (base : Nat) (v : Value) (xs : List Value) : Prop := w.ownsRow base U 1 v xs.length xs

section
variable {U : TypeId} {w w' : World} {base : Nat} {v : Value} {l : List Value}
theorem OwnV.nil : OwnV U w base (.slice none 0 0) [] := World.ownsRow_nil w base U 1
theorem OwnV.mono (h : OwnV U w base v l) {base' : Nat} (hb : base' ≤ base) : OwnV U w base' v l := by
  refine ⟨h.1, ?_⟩
  rcases h.2 with h2 | ⟨g, cap, cur, hv, hg, r⟩
  · exact .inl h2
  · exact .inr ⟨g, cap, cur, hv, by omega, r⟩
theorem OwnV.keep (h : OwnV U w base v l) (hb : ∀ k, v.ownBlock = some k → w'.heap[k]? = w.heap[k]?) : OwnV U w' base v l := by
  refine ⟨h.1, ?_⟩
  rcases h.2 with h2 | ⟨g, cap, cur, rfl, hg, hh, r⟩
  · exact .inl h2
  · exact .inr ⟨g, cap, cur, rfl, hg, by rw [hb g rfl]; exact hh, r⟩
theorem OwnV.lt (h : OwnV U w base v l) : ∀ k, v.ownBlock = some k → base ≤ k ∧ k < w.heap.size := World.ownsRow.lt h
theorem OwnV.below (h : OwnV U w base v l) (hb : Below w.heap.size w w') : OwnV U w' base v l := h.keep fun k hk => hb.block k (h.lt k hk).2
theorem OwnV.drew (h : OwnV U w base v l) : OwnV U w.drew base v l := h.below (Below.refl _ _).drew
theorem OwnV.shape (h : OwnV U w base v l) {n : Nat} (hn : l.length = n) : ∃ A c, v = .slice A n c ∧ n ≤ c ∧ c ≤ maxLen ∧ RdV w A n l := by
  subst hn
  rcases h.2 with ⟨rfl, hn⟩ | ⟨g, cap, cur, rfl, hg, hh, hc, hm, _⟩
  · exact ⟨none, 0, by rw [hn], by omega, by simp [maxLen], ⟨rfl, fun hp => by omega⟩⟩
  · refine ⟨_, cap, rfl, hc, hm, ⟨rfl, fun hp => ⟨g, 0, rfl, (Array.getElem?_eq_some_iff.1 hh).1, fun j x hx => ?_⟩⟩⟩
    have := World.ownsRow.cells h (g := g) rfl j x hx
    rw [add_plain] at this
    exact this
end

/-- Block g is just these cells, none of them marked. -/
def Whole (w : World) (g : Nat) (t : TypeId) (cs : List Value) : Prop := w.heap[g]? = some (.cells cs.toArray t (0, 0))
section
variable {w w' : World} {g : Nat} {t : TypeId} {cs : List Value}
theorem Whole.lt (h : Whole w g t cs) : g < w.heap.size := (Array.getElem?_eq_some_iff.1 h).1
theorem Whole.cell (h : Whole w g t cs) (j : Nat) : w.cell? ⟨g, j, none⟩ = cs[j]? := by
  rw [cell_of_row w g j _ t (0, 0) h]
  simp
theorem Whole.free (h : Whole w g t cs) (j : Nat) : w.frozen? ⟨g, j, none⟩ = false := by
  unfold Whole at h
  simp [World.frozen?, h]
theorem Whole.keep (h : Whole w g t cs) (hk : w'.heap[g]? = w.heap[g]?) : Whole w' g t cs := hk.trans h
theorem Whole.below (h : Whole w g t cs) (hb : Below w.heap.size w w') : Whole w' g t cs := h.keep (hb.block g h.lt)
theorem Whole.grown {r : Nat} (h : Whole w g t cs) (hb : w.grownBy w' (some r)) (hg : g ≠ r) : Whole w' g t cs := h.keep (hb.block g h.lt (by simpa using hg))
theorem Whole.drew (h : Whole w g t cs) : Whole w.drew g t cs := h
theorem Whole.alloc (h : Whole w g t cs) (o : Obj) : Whole (w.alloc o) g t cs := h.keep (Below.heap_alloc w o g h.lt)
theorem Whole.set (h : Whole w g t cs) (j : Nat) (u : Value) : Whole (w.setCell ⟨g, j, none⟩ u) g t (cs.set j u) := by
  unfold Whole at h ⊢
  simp [World.setCell, Array.getElem?_modify, h]
theorem Whole.ne {g' : Nat} {t' : TypeId} {cs' : List Value} (h : Whole w g t cs) (h' : Whole w g' t' cs') (hne : t ≠ t') : g ≠ g' := by
  rintro rfl
  unfold Whole at h h'
  rw [h] at h'
  injection h' with h'
  injection h' with _ ht
  exact hne ht
theorem Whole.new (w : World) (cs : Array Value) (t : TypeId) : Whole (w.alloc (.cells cs t)) w.heap.size t cs.toList := by
  unfold Whole
  rw [heap_alloc_new]
theorem Whole.rd (h : Whole w g t cs) : RdV w (some ⟨g, 0, none⟩) cs.length cs := ⟨rfl, fun _ => ⟨g, 0, rfl, h.lt, fun j x hx => by rw [Nat.zero_add, h.cell, hx]⟩⟩
theorem Whole.own (h : Whole w g t cs) {base : Nat} (hb : base ≤ g) (hm : cs.length ≤ maxLen) : OwnV t w base (.slice (some ⟨g, 0, none⟩) cs.length cs.length) cs :=
  ⟨by simp, .inr ⟨g, cs.length, cs.toArray, rfl, hb, h, Nat.le_refl _, hm, by simp, by simp⟩⟩
end
theorem grown_refl (w : World) (r : Option Nat) : w.grownBy w r := ⟨rfl, rfl, rfl, Nat.le_refl _, fun _ _ _ => rfl⟩
theorem grown_trans {a b c : World} {r : Option Nat} (h : a.grownBy b r) (k : b.grownBy c r) : a.grownBy c r :=
  ⟨k.os.trans h.os, k.tape.trans h.tape, k.output.trans h.output, Nat.le_trans h.size k.size, fun i hi hr => (k.block i (Nat.lt_of_lt_of_le hi h.size) hr).trans (h.block i hi hr)⟩
theorem grown_set (w : World) (g j : Nat) (v : Value) : w.grownBy (w.setCell ⟨g, j, none⟩ v) (some g) :=
  ⟨rfl, rfl, rfl, by simp [World.setCell], fun k _ hk => heap_setCell_other w ⟨g, j, none⟩ k v (by simpa using hk)⟩
theorem grown_below {w w' : World} (h : Below w.heap.size w w') (r : Option Nat) : w.grownBy w' r := ⟨h.os, h.tape, h.output, h.size, fun k hk _ => h.block k hk⟩
theorem below_grown {B : Nat} {a w w' : World} {r : Nat} (h : Below B a w) (hg : w.grownBy w' (some r)) (hB : B ≤ w.heap.size) (hr : B ≤ r) : Below B a w' := h.grown hg hB fun k hk => by injection hk with hk; omega
theorem RdV.grown {w w' : World} {A : Option Addr} {n : Nat} {l : List Value} {r : Nat} (h : RdV w A n l) (hg : w.grownBy w' (some r)) (hA : ∀ a, A = some a → a.block ≠ r) : RdV w' A n l :=
  ⟨h.len, fun hn => by
    obtain ⟨b, off, e, hb, hc⟩ := h.at_ hn
    have hne := hA _ e
    exact ⟨b, off, e, Nat.lt_of_lt_of_le hb hg.size, fun j x hx => (World.cell?_of_block (hg.block b hb (by simpa using hne))).trans (hc j x hx)⟩⟩
theorem OwnV.grown {U : TypeId} {w w' : World} {base : Nat} {v : Value} {l : List Value} {r : Nat} (h : OwnV U w base v l) (hg : w.grownBy w' (some r)) (hne : v.ownBlock ≠ some r) : OwnV U w' base v l :=
  h.keep fun k hk => hg.block k (h.lt k hk).2 fun e => hne (hk.trans e)
/-- A slice of the call's own and a block of another type are apart. -/
theorem OwnV.apart {U t : TypeId} {w : World} {base g : Nat} {v : Value} {l cs : List Value} (h : OwnV U w base v l) (hg : Whole w g t cs) (hne : U ≠ t) : v.ownBlock ≠ some g := by
  rcases h.2 with ⟨rfl, _⟩ | ⟨g', cap, cur, rfl, _, hh, _⟩
  · simp [Value.ownBlock]
  · intro he
    have : g' = g := by simpa [Value.ownBlock] using he
    subst this
    unfold Whole at hg
    rw [hh] at hg
    injection hg with hg
    injection hg with _ ht
    exact hne ht

/-- So many equal cells; a plain definition, so that the walk leaves it as it stands. -/
def reps (k : Nat) (z : Value) : List Value := List.replicate k z
theorem reps_length (k : Nat) (z : Value) : (reps k z).length = k := by simp [reps]
/-- make([]T, n), T of one cell. -/
theorem run_makeV {P : Program} {t e : TypeId} {z : Value} {bytes : Nat} (ht : P.underlying t = some (.slice e)) (hi : (P.info? e).map (fun i => (i.zero, i.size, i.bytes)) = some (some z, 1, bytes)) (hz : z.cells = #[z]) (n : Nat) (hn : bytes * n ≤ 140737488355328) (hn2 : n ≤ 140737488355328) (W : World) :
    (Instr.makeSlice t (.int .i64 (n : Int)) (.int .i64 (n : Int))).run P W = .ok (.slice (some ⟨W.heap.size, 0, none⟩) n n) (W.alloc (.cells (reps n z).toArray e)) := by
  obtain ⟨i0, hi, hz0, hz1, hz2⟩ := info_parts hi
  have hb : (bytes : Int) * (n : Int) ≤ 281474976710656 := by
    have h : ((bytes * n : Nat) : Int) ≤ 281474976710656 := by omega
    rwa [Int.natCast_mul] at h
  have h := run_make (P := P) W t e i0 _ ht hi hz0 .i64 .i64 (n : Int) (n : Int) (by omega) (by omega) (by rw [hz2]; exact hb) (by omega)
  rw [h, Int.toNat_natCast, hz1, Nat.mul_one, hz]
  have : madeCells #[z] n = (reps n z).toArray := by
    apply Array.ext'
    exact toList_madeCells_one z n
  rw [this]
/-- append(v, x), x in a block of its own. -/
theorem run_app_oneV {P : Program} {w : World} (base : Nat) (t ty U : TypeId) (ht : P.underlying t = some (.slice U)) {z : Value} (hinfo : (P.info? U).map (fun i => (i.zero, i.size, i.bytes)) = some (some z, 1, 1)) (hz : z.cells.size = 1)
    (v : Value) (l : List Value) (hown : OwnV U w base v l) (u : Value) (hu : u.oneCell' = true) (hle : l.length + 1 ≤ 140737488355328) (hbase : base ≤ w.heap.size) :
    ∃ v' w', (Builtin.append_ #[t, t] ty #[v, .slice (some ⟨w.heap.size, 0, none⟩) 1 1]).run P (w.alloc (.cells #[u] U)) = .ok v' w' ∧ OwnV U w' base v' (l ++ [u]) ∧ Below base w w' := by
  obtain ⟨i0, hi, hz0, hz1, hz2⟩ := info_parts hinfo
  have ho : OwnV U (w.alloc (.cells #[u] U)) base v l := hown.below ((Below.refl _ _).alloc (Nat.le_refl _) _)
  obtain ⟨v', w', h1, h2, h3, _⟩ := run_append_own_at (P := P) (w.alloc (.cells #[u] U)) base t ty U i0 z 1 1 ht hi hz0 hz1 hz2 hz (by omega) v l.length l ho ⟨w.heap.size, 0, none⟩ 1 1 [u] (by simp)
    (fun j x hj => by
      have hj0 : j = 0 := by
        have := (List.getElem?_eq_some_iff.1 hj).1
        simp at this
        exact this
      subst hj0
      simp at hj
      subst hj
      rw [add_plain]
      have := (Whole.new w #[u] U).cell 0
      rw [Nat.zero_add, this]
      rfl) (by simpa using hu) (by simp only [maxLen]; omega) (by omega) (by simp; omega)
  refine ⟨v', w', h1, ?_, ((Below.refl base w).alloc hbase _).grown h3 (by simp; omega) fun k hk => (ho.lt k hk).1⟩
  unfold OwnV
  rw [List.length_append]
  exact h2
end Go.Proofs.Ytbfamijlaoopaaa

/-
  Words for rows of structs of two integers (blocks) in memory: a slice that reads as blocks, a slice of blocks of the call's own; append of one, of a row, a store, a cut. Plain lemmas over any program.
-/
import Derived.Test.YthiijnanfiddpaaDoorVals
import Derived.Test.YthiijnanfiddpaaDoorBudMath
import Derived.Lib.SliceRun
namespace Go.Proofs.YthiijnanfiddpaaDoor
open Go.RowKit

/-- A block's two cells. -/
def enc2 (b : Blk) : List Value := [.int .i64 b.1, .int .i64 b.2]
def bval (b : Blk) : Value := .agg (enc2 b).toArray
def bcs (l : List Blk) : List Value := l.flatMap enc2
theorem bcs_nil : bcs [] = [] := rfl
theorem bcs_cons (b : Blk) (l : List Blk) : bcs (b :: l) = .int .i64 b.1 :: .int .i64 b.2 :: bcs l := rfl
theorem bcs_append (l m : List Blk) : bcs (l ++ m) = bcs l ++ bcs m := by simp [bcs]
theorem bcs_length (l : List Blk) : (bcs l).length = l.length * 2 := by
  induction l with
  | nil => rfl
  | cons b t ih => rw [bcs_cons]; simp [ih]; omega
theorem bcs_one (l : List Blk) : ∀ u ∈ bcs l, u.oneCell' = true := by
  intro u hu
  simp only [bcs, List.mem_flatMap] at hu
  obtain ⟨b, _, hb⟩ := hu
  simp [enc2] at hb
  rcases hb with rfl | rfl <;> rfl
theorem bcs_get : ∀ {l : List Blk} {j : Nat} {b : Blk}, l[j]? = some b → (bcs l)[j * 2]? = some (.int .i64 b.1) ∧ (bcs l)[j * 2 + 1]? = some (.int .i64 b.2)
  | [], j, b, h => by simp at h
  | c :: t, 0, b, h => by
    simp at h
    subst h
    exact ⟨rfl, rfl⟩
  | c :: t, j + 1, b, h => by
    have := bcs_get (l := t) (j := j) (b := b) (by simpa using h)
    rw [bcs_cons, show (j + 1) * 2 = j * 2 + 1 + 1 by omega, show j * 2 + 1 + 1 + 1 = (j * 2 + 1) + 1 + 1 by omega]
    simpa using this
theorem bcs_at {l : List Blk} {j : Nat} {u : Value} (h : (bcs l)[j]? = some u) : ∃ b, l[j / 2]? = some b ∧ u = (if j % 2 = 0 then .int .i64 b.1 else .int .i64 b.2) := by
  have hj : j < l.length * 2 := by rw [← bcs_length]; exact (List.getElem?_eq_some_iff.1 h).1
  have hb : l[j / 2]? = some (l[j / 2]'(by omega)) := List.getElem?_eq_getElem (by omega)
  obtain ⟨h1, h2⟩ := bcs_get hb
  refine ⟨_, hb, ?_⟩
  split
  · rw [show j / 2 * 2 = j by omega, h] at h1
    exact Option.some.inj h1
  · rw [show j / 2 * 2 + 1 = j by omega, h] at h2
    exact Option.some.inj h2
theorem bcs_set : ∀ (l : List Blk) (j : Nat) (b : Blk), ((bcs l).set (j * 2) (.int .i64 b.1)).set (j * 2 + 1) (.int .i64 b.2) = bcs (l.set j b)
  | [], j, b => by simp [bcs_nil]
  | c :: t, 0, b => rfl
  | c :: t, j + 1, b => by
    rw [bcs_cons, List.set_cons_succ, bcs_cons, show (j + 1) * 2 = j * 2 + 1 + 1 by omega, show j * 2 + 1 + 1 + 1 = (j * 2 + 1) + 1 + 1 by omega]
    simp only [List.set_cons_succ, bcs_set t j b]
theorem bcs_take (l : List Blk) (k : Nat) : (bcs l).take (k * 2) = bcs (l.take k) := by
  induction k generalizing l with
  | zero => simp [bcs_nil]
  | succ k ih =>
    cases l with
    | nil => simp [bcs_nil]
    | cons c t =>
      rw [bcs_cons, show (k + 1) * 2 = k * 2 + 1 + 1 by omega, List.take_succ_cons, List.take_succ_cons, ih, List.take_succ_cons, bcs_cons]

/-- The slice '.slice A n _' reads as the blocks l. -/
structure RdS (w : World) (A : Option Addr) (n : Nat) (l : List Blk) : Prop where
  len : l.length = n
  at_ : 0 < n → ∃ b off, A = some ⟨b, off, none⟩ ∧ b < w.heap.size ∧ ∀ (j : Nat) (x : Blk), l[j]? = some x → w.cell? ⟨b, off + j * 2, none⟩ = some (.int .i64 x.1) ∧ w.cell? ⟨b, off + j * 2 + 1, none⟩ = some (.int .i64 x.2)
section
variable {w w' : World} {A : Option Addr} {n : Nat} {l : List Blk}
theorem RdS.nil : RdS w A 0 [] := ⟨rfl, fun h => absurd h (by omega)⟩
theorem RdS.keep (h : RdS w A n l) (hs : w.heap.size ≤ w'.heap.size) (hk : ∀ p : Addr, p.block < w.heap.size → w'.cell? p = w.cell? p) : RdS w' A n l :=
  ⟨h.len, fun hn => by
    obtain ⟨b, off, e, hb, hc⟩ := h.at_ hn
    exact ⟨b, off, e, by omega, fun j x hx => ⟨(hk ⟨b, off + j * 2, none⟩ hb).trans (hc j x hx).1, (hk ⟨b, off + j * 2 + 1, none⟩ hb).trans (hc j x hx).2⟩⟩⟩
theorem RdS.below (h : RdS w A n l) (hb : Below w.heap.size w w') : RdS w' A n l := h.keep hb.size fun _ hp => hb.cell hp
theorem RdS.grown {r : Option Nat} (h : RdS w A n l) (hg : w.grownBy w' r) (hA : ∀ a, A = some a → some a.block ≠ r) : RdS w' A n l :=
  ⟨h.len, fun hn => by
    obtain ⟨b, off, e, hb, hc⟩ := h.at_ hn
    have hne := hA _ e
    have hk := hg.block b hb hne
    exact ⟨b, off, e, Nat.lt_of_lt_of_le hb hg.size, fun j x hx => ⟨(World.cell?_of_block (a := ⟨b, off + j * 2, none⟩) hk).trans (hc j x hx).1, (World.cell?_of_block (a := ⟨b, off + j * 2 + 1, none⟩) hk).trans (hc j x hx).2⟩⟩⟩
theorem RdS.drew (h : RdS w A n l) : RdS w.drew A n l := h.below (Below.refl _ _).drew
theorem RdS.cell (h : RdS w A n l) {j : Nat} (hj : j < n) : ∃ b off x, A = some ⟨b, off, none⟩ ∧ b < w.heap.size ∧ l[j]? = some x ∧ w.cell? ⟨b, off + j * 2, none⟩ = some (.int .i64 x.1) ∧ w.cell? ⟨b, off + j * 2 + 1, none⟩ = some (.int .i64 x.2) := by
  obtain ⟨b, off, e, hb, hc⟩ := h.at_ (by omega)
  have hl : j < l.length := by have := h.len; omega
  exact ⟨b, off, l[j], e, hb, List.getElem?_eq_getElem hl, hc j _ (List.getElem?_eq_getElem hl)⟩
theorem RdS.cells (h : RdS w A n l) (hn : 0 < n) : ∃ b off, A = some ⟨b, off, none⟩ ∧ b < w.heap.size ∧ ∀ j u, (bcs l)[j]? = some u → w.cell? ⟨b, off + j, none⟩ = some u := by
  obtain ⟨b, off, e, hb, hc⟩ := h.at_ hn
  refine ⟨b, off, e, hb, fun j u hu => ?_⟩
  obtain ⟨x, hx, rfl⟩ := bcs_at hu
  have := hc _ _ hx
  split
  · rw [show off + j = off + j / 2 * 2 by omega]; exact this.1
  · rw [show off + j = off + j / 2 * 2 + 1 by omega]; exact this.2
theorem RdS.take (h : RdS w A n l) {k : Nat} (hk : k ≤ n) : RdS w A k (l.take k) :=
  ⟨by rw [List.length_take, h.len]; omega, fun hp => by
    obtain ⟨b, off, e, hb, hc⟩ := h.at_ (by omega)
    refine ⟨b, off, e, hb, fun j x hx => hc j x ?_⟩
    rw [List.getElem?_take] at hx
    split at hx
    · exact hx
    · cases hx⟩
end

/-- The slice v was made by the call itself (its block is 'base' or later) and holds the blocks l. -/
def OwnB (U : TypeId) (w : World) (base : Nat) (v : Value) (l : List Blk) : Prop := w.ownsRow base U 2 v l.length (bcs l)
section
variable {U : TypeId} {w w' : World} {base : Nat} {v : Value} {l : List Blk}
theorem OwnB.nil : OwnB U w base (.slice none 0 0) [] := World.ownsRow_nil w base U 2
theorem OwnB.mono (h : OwnB U w base v l) {base' : Nat} (hb : base' ≤ base) : OwnB U w base' v l := by
  refine ⟨h.1, ?_⟩
  rcases h.2 with h2 | ⟨g, cap, cur, hv, hg, r⟩
  · exact .inl h2
  · exact .inr ⟨g, cap, cur, hv, by omega, r⟩
theorem OwnB.keep (h : OwnB U w base v l) (hb : ∀ k, v.ownBlock = some k → w'.heap[k]? = w.heap[k]?) : OwnB U w' base v l := by
  refine ⟨h.1, ?_⟩
  rcases h.2 with h2 | ⟨g, cap, cur, rfl, hg, hh, r⟩
  · exact .inl h2
  · exact .inr ⟨g, cap, cur, rfl, hg, by rw [hb g rfl]; exact hh, r⟩
theorem OwnB.lt (h : OwnB U w base v l) : ∀ k, v.ownBlock = some k → base ≤ k ∧ k < w.heap.size := World.ownsRow.lt h
theorem OwnB.below (h : OwnB U w base v l) (hb : Below w.heap.size w w') : OwnB U w' base v l := h.keep fun k hk => hb.block k (h.lt k hk).2
theorem OwnB.drew (h : OwnB U w base v l) : OwnB U w.drew base v l := h.below (Below.refl _ _).drew
theorem OwnB.shape (h : OwnB U w base v l) {n : Nat} (hn : l.length = n) : ∃ A c, v = .slice A n c ∧ n ≤ c ∧ c ≤ maxLen ∧ RdS w A n l ∧ (A = none → n = 0 ∧ c = 0) ∧ ∀ a, A = some a → v.ownBlock = some a.block ∧ a.off = 0 ∧ a.spot = none := by
  subst hn
  rcases h.2 with ⟨rfl, hn⟩ | ⟨g, cap, cur, rfl, hg, hh, hc, hm, _⟩
  · exact ⟨none, 0, by rw [hn], by omega, by simp [maxLen], ⟨rfl, fun hp => by omega⟩, fun _ => ⟨hn, rfl⟩, fun a ha => by cases ha⟩
  · refine ⟨_, cap, rfl, hc, hm, ⟨rfl, fun hp => ⟨g, 0, rfl, (Array.getElem?_eq_some_iff.1 hh).1, fun j x hx => ?_⟩⟩, (fun h => by cases h), (fun a ha => by injection ha with ha; subst ha; exact ⟨rfl, rfl, rfl⟩)⟩
    obtain ⟨h1, h2⟩ := bcs_get hx
    have e1 := World.ownsRow.cells h (g := g) rfl _ _ h1
    have e2 := World.ownsRow.cells h (g := g) rfl _ _ h2
    rw [add_plain] at e1 e2
    exact ⟨e1, by rw [Nat.add_assoc]; exact e2⟩
theorem OwnB.grown {r : Option Nat} (h : OwnB U w base v l) (hg : w.grownBy w' r) (hne : ∀ k, v.ownBlock = some k → some k ≠ r) : OwnB U w' base v l :=
  h.keep fun k hk => hg.block k (h.lt k hk).2 (hne k hk)
/-- A slice of the call's own that is not empty lies in a block of the call's own. -/
theorem OwnB.form (h : OwnB U w base v l) {n : Nat} (hn : l.length = n) (hl : 0 < n) : ∃ g cap, v = .slice (some ⟨g, 0, none⟩) n cap ∧ base ≤ g ∧ g < w.heap.size ∧ n ≤ cap ∧ cap ≤ maxLen := by
  subst hn
  rcases h.2 with ⟨_, h0⟩ | ⟨g, cap, cur, hv, hb, hh, hc, hm, _⟩
  · omega
  · exact ⟨g, cap, hv, hb, (Array.getElem?_eq_some_iff.1 hh).1, hc, hm⟩
/-- The last ones are let go. -/
theorem OwnB.cut {g cap n k : Nat} (hn : l.length = n) (h : OwnB U w base (.slice (some ⟨g, 0, none⟩) n cap) l) (hk : k ≤ n) : OwnB U w base (.slice (some ⟨g, 0, none⟩) k cap) (l.take k) := by
  obtain ⟨h1, h2⟩ := h
  rcases h2 with ⟨h2, _⟩ | ⟨g', cap', cur, hv, hb, hh, hc, hm, hs, ht⟩
  · cases h2
  · injection hv with e1 e2 e3
    injection e1 with e1
    injection e1 with e1
    subst e1
    subst e3
    have hl : (l.take k).length = k := by rw [List.length_take]; omega
    refine ⟨by rw [bcs_length], .inr ⟨g, cap, cur, by rw [hl], hb, hh, by rw [hl]; omega, hm, hs, ?_⟩⟩
    rw [hl, ← bcs_take, ← ht, List.take_take, Nat.min_eq_left (by rw [hn]; omega)]
/-- A block of it is stored. -/
theorem OwnB.set {g cap n : Nat} (hn : l.length = n) (h : OwnB U w base (.slice (some ⟨g, 0, none⟩) n cap) l) (j : Nat) (b : Blk) :
    OwnB U ((w.setCell ⟨g, j * 2, none⟩ (.int .i64 b.1)).setCell ⟨g, j * 2 + 1, none⟩ (.int .i64 b.2)) base (.slice (some ⟨g, 0, none⟩) n cap) (l.set j b) := by
  unfold OwnB at h ⊢
  rw [List.length_set, hn, ← bcs_set]
  rw [hn] at h
  exact (World.ownsRow.stored (World.ownsRow.stored h (j * 2) _).1 (j * 2 + 1) _).1
theorem OwnB.free {g cap n : Nat} (hn : l.length = n) (h : OwnB U w base (.slice (some ⟨g, 0, none⟩) n cap) l) (j : Nat) : w.frozen? ⟨g, j, none⟩ = false := by
  unfold OwnB at h
  rw [hn] at h
  exact World.ownsRow.frozenAt h j
theorem OwnB.cell {g cap n : Nat} (hn : l.length = n) (h : OwnB U w base (.slice (some ⟨g, 0, none⟩) n cap) l) {j : Nat} {x : Blk} (hx : l[j]? = some x) : w.cell? ⟨g, j * 2, none⟩ = some (.int .i64 x.1) ∧ w.cell? ⟨g, j * 2 + 1, none⟩ = some (.int .i64 x.2) := by
  obtain ⟨A, c, hv, _, _, r, _⟩ := h.shape hn
  injection hv with e1 e2 e3
  have hj : j < n := by rw [← hn]; exact (List.getElem?_eq_some_iff.1 hx).1
  obtain ⟨b, off, e, _, hc⟩ := r.at_ (by omega)
  rw [← e1] at e
  simp only [Option.some.injEq, Addr.mk.injEq, and_true] at e
  obtain ⟨rfl, rfl⟩ := e
  have := hc j x hx
  rw [Nat.zero_add] at this
  exact this
/-- A slice literal of one block. -/
theorem RdS.one (w : World) (b : Blk) (cs : Array Value) (h : cs.toList = enc2 b) : RdS (w.alloc (.cells cs U)) (some ⟨w.heap.size, 0, none⟩) 1 [b] :=
  ⟨rfl, fun _ => ⟨w.heap.size, 0, rfl, by simp, fun j x hx => by
    have hj : j = 0 := by
      have := (List.getElem?_eq_some_iff.1 hx).1
      simpa using this
    subst hj
    simp at hx
    subst hx
    have hw := Whole.new w cs U
    rw [h] at hw
    exact ⟨by rw [Nat.zero_mul, Nat.zero_add, hw.cell]; rfl, by rw [Nat.zero_mul, Nat.zero_add, hw.cell]; rfl⟩⟩⟩
theorem OwnB.one (w : World) (b : Blk) (cs : Array Value) (h : cs.toList = enc2 b) {base : Nat} (hb : base ≤ w.heap.size) : OwnB U (w.alloc (.cells cs U)) base (.slice (some ⟨w.heap.size, 0, none⟩) 1 1) [b] := by
  have hsz : cs.size = 2 := by rw [← Array.length_toList, h]; rfl
  have hw := Whole.new w cs U
  refine ⟨rfl, .inr ⟨w.heap.size, 1, cs, rfl, hb, ?_, Nat.le_refl _, by simp [maxLen], by rw [hsz], ?_⟩⟩
  · unfold Whole at hw
    simpa using hw
  · rw [h]; rfl
end

/-- What an append leaves. -/
def AppB (U : TypeId) (w : World) (base : Nat) (v : Value) (l : List Blk) (v' : Value) (w' : World) : Prop :=
  OwnB U w' base v' l ∧ w.grownBy w' v.ownBlock ∧ (v'.ownBlock = v.ownBlock ∨ ∃ k, v'.ownBlock = some k ∧ w.heap.size ≤ k)
theorem AppB.below {U : TypeId} {w w' : World} {base : Nat} {v v' : Value} {l m : List Blk} (h : AppB U w base v l v' w') (ho : OwnB U w base v m) {B : Nat} (hB : B ≤ base) (hs : B ≤ w.heap.size) {w0 : World} (b : Below B w0 w) : Below B w0 w' :=
  b.grown h.2.1 hs fun k hk => Nat.le_trans hB (ho.lt k hk).1
/-- append(v, more...) -/
theorem run_appB {P : Program} {w : World} (base : Nat) (t ty U : TypeId) (ht : P.underlying t = some (.slice U)) {z : Value} (hinfo : (P.info? U).map (fun i => (i.zero, i.size, i.bytes)) = some (some z, 2, 16)) (hz : z.cells.size = 2)
    (v : Value) (l : List Blk) (hown : OwnB U w base v l) (A : Option Addr) (m c : Nat) (news : List Blk) (hr : RdS w A m news) (hle : l.length + m ≤ 8796093022208) (hbase : base ≤ w.heap.size) :
    ∃ v' w', (Builtin.append_ #[t, t] ty #[v, .slice A m c]).run P w = .ok v' w' ∧ AppB U w base v (l ++ news) v' w' := by
  obtain ⟨i0, hi, hz0, hz1, hz2⟩ := info_parts hinfo
  have hm : news.length = m := hr.len
  by_cases h0 : m = 0
  · subst h0
    obtain rfl : news = [] := List.eq_nil_of_length_eq_zero hm
    have hrun : (Builtin.append_ #[t, t] ty #[v, .slice A 0 c]).run P w = .ok v w := by
      rcases hown.2 with ⟨rfl, _⟩ | ⟨g, cap, cur, rfl, _, _, hnc, _⟩
      · cases A <;> simp [Builtin.append_, run_underlying ht, sizeOf, typeInfo, hi, Builtin.lenOf, Builtin.firstCells, loadCells, loadCellsFrom]
      · cases A <;> simp [Builtin.append_, run_underlying ht, sizeOf, typeInfo, hi, Builtin.lenOf, Builtin.firstCells, loadCells, loadCellsFrom, hnc, storeCells]
    exact ⟨v, w, hrun, by rw [List.append_nil]; exact hown, ⟨rfl, rfl, rfl, Nat.le_refl _, fun _ _ _ => rfl⟩, Or.inl rfl⟩
  · obtain ⟨b, off, rfl, hb, hc⟩ := hr.cells (by omega)
    obtain ⟨v', w', hrun, h1, h2, _, h4⟩ := run_append_own_at (P := P) w base t ty U i0 _ 2 16 ht hi hz0 hz1 hz2 hz (by omega) v l.length (bcs l) hown ⟨b, off, none⟩ m c (bcs news) (by rw [bcs_length]; omega)
      (fun j u hj => by rw [add_plain]; exact hc j u hj) (bcs_one _) (by simp only [maxLen]; omega) (by omega) hbase
    refine ⟨v', w', hrun, ?_, h2, ?_⟩
    · unfold OwnB
      rw [bcs_append, List.length_append, hm]
      exact h1
    · rcases h4 with h4 | h4
      · exact .inl h4
      · exact .inr ⟨_, h4, Nat.le_refl _⟩
/-- append(v, x), x in a block of its own. -/
theorem run_appB_one {P : Program} {w : World} (base : Nat) (t ty U : TypeId) (ht : P.underlying t = some (.slice U)) {z : Value} (hinfo : (P.info? U).map (fun i => (i.zero, i.size, i.bytes)) = some (some z, 2, 16)) (hz : z.cells.size = 2)
    (v : Value) (l : List Blk) (hown : OwnB U w base v l) (b : Blk) (hle : l.length + 1 ≤ 8796093022208) (hbase : base ≤ w.heap.size) :
    ∃ v' w', (Builtin.append_ #[t, t] ty #[v, .slice (some ⟨w.heap.size, 0, none⟩) 1 1]).run P (w.alloc (.cells #[.int .i64 b.1, .int .i64 b.2] U)) = .ok v' w' ∧ AppB U w base v (l ++ [b]) v' w' := by
  have hb1 : Below w.heap.size w (w.alloc (.cells #[.int .i64 b.1, .int .i64 b.2] U)) := (Below.refl _ _).alloc (Nat.le_refl _) _
  have ho := hown.below hb1
  obtain ⟨v', w', h1, h2, h3, h4⟩ := run_appB base t ty U ht hinfo hz v l ho _ 1 1 [b] (RdS.one w b #[.int .i64 b.1, .int .i64 b.2] rfl) hle (Nat.le_trans hbase hb1.size)
  refine ⟨v', w', h1, h2, grown_trans (grown_below hb1 _) h3, ?_⟩
  rcases h4 with h4 | ⟨k, h4, h5⟩
  · exact .inl h4
  · exact .inr ⟨k, h4, Nat.le_trans hb1.size h5⟩
end Go.Proofs.YthiijnanfiddpaaDoor

/-
  A log in memory: rows of contents, the log's struct, numbers and texts as cells, appends of one cell. Plain lemmas, no condition of their own.
-/
import Derived.Test.YtcogglanbpphpaaLgMath
namespace Go.Proofs.Ytcogglanbpphpaa
open Go.RowKit

theorem Try.infoCt : (Try.prog.info? 57).map (fun i => (i.zero, i.size, i.bytes)) = some (some (.agg #[.int .i64 0, .int .i64 0, .int .i64 0, .int .i64 0, .int .i64 0, .string ⟨#[]⟩]), 6, 56) := by kernel_rfl
theorem Try.infoLog : (Try.prog.info? 47).map (fun i => (i.zero, i.size, i.bytes)) = some (some (.agg #[.pointer none, .int .i64 0, .int .i64 0, .int .i64 0, .int .i64 0, .int .i64 0, .slice none 0 0]), 7, 72) := by kernel_rfl
theorem Try.infoInt : (Try.prog.info? 3).map (fun i => (i.zero, i.size, i.bytes)) = some (some (.int .i64 0), 1, 8) := by kernel_rfl
theorem Try.infoStr : (Try.prog.info? 9).map (fun i => (i.zero, i.size, i.bytes)) = some (some (.string ⟨#[]⟩), 1, 16) := by kernel_rfl
theorem Try.infoBld : (Try.prog.info? 105).map (fun i => (i.zero, i.size, i.bytes)) = some (some (.agg #[.pointer none, .slice none 0 0]), 2, 32) := by kernel_rfl

/-! ### Numbers and texts as cells -/
def nts (l : List Nat) : List Value := l.map fun k : Nat => .int .i64 (k : Int)
theorem nts_length (l : List Nat) : (nts l).length = l.length := by simp [nts]
theorem nts_append (l m : List Nat) : nts (l ++ m) = nts l ++ nts m := by simp [nts]
theorem nts_get {l : List Nat} {j : Nat} {v : Value} (h : (nts l)[j]? = some v) : ∃ k : Nat, l[j]? = some k ∧ v = .int .i64 (k : Int) := by
  simp only [nts, List.getElem?_map, Option.map_eq_some_iff] at h
  obtain ⟨x, hx, rfl⟩ := h
  exact ⟨x, hx, rfl⟩
def sv (t : List UInt8) : Value := .string ⟨t.toArray⟩
def svs (l : List (List UInt8)) : List Value := l.map sv
theorem svs_length (l : List (List UInt8)) : (svs l).length = l.length := by simp [svs]
theorem svs_append (l m : List (List UInt8)) : svs (l ++ m) = svs l ++ svs m := by simp [svs]

/-! ### Contents -/
/-- The cells of what a sector has. -/
def Ct.cs (c : Ct) : List Value := [.int .i64 (c.kd : Int), .int .i64 (c.ag : Int), .int .i64 (c.nu : Int), .int .i64 (c.pl : Int), .int .i64 (c.sz : Int), sv c.tx]
def Ct.val (c : Ct) : Value := .agg c.cs.toArray
/-- The six cells from off on in block b are the content c. -/
structure CtAt (w : World) (b off : Nat) (c : Ct) : Prop where
  c0 : w.cell? ⟨b, off, none⟩ = some (.int .i64 (c.kd : Int))
  c1 : w.cell? ⟨b, off + 1, none⟩ = some (.int .i64 (c.ag : Int))
  c2 : w.cell? ⟨b, off + 2, none⟩ = some (.int .i64 (c.nu : Int))
  c3 : w.cell? ⟨b, off + 3, none⟩ = some (.int .i64 (c.pl : Int))
  c4 : w.cell? ⟨b, off + 4, none⟩ = some (.int .i64 (c.sz : Int))
  c5 : w.cell? ⟨b, off + 5, none⟩ = some (sv c.tx)
theorem CtAt.keep {w w' : World} {b off : Nat} {c : Ct} (h : CtAt w b off c) (hk : w'.heap[b]? = w.heap[b]?) : CtAt w' b off c :=
  ⟨(World.cell?_of_block (a := ⟨b, off, none⟩) hk).trans h.c0, (World.cell?_of_block (a := ⟨b, off + 1, none⟩) hk).trans h.c1, (World.cell?_of_block (a := ⟨b, off + 2, none⟩) hk).trans h.c2,
    (World.cell?_of_block (a := ⟨b, off + 3, none⟩) hk).trans h.c3, (World.cell?_of_block (a := ⟨b, off + 4, none⟩) hk).trans h.c4, (World.cell?_of_block (a := ⟨b, off + 5, none⟩) hk).trans h.c5⟩
/-- From off on in block b lie n contents. -/
structure RowCt (w : World) (b off n : Nat) (C : Nat → Ct) : Prop where
  lt : b < w.heap.size
  get : ∀ j, j < n → CtAt w b (off + j * 6) (C j)
theorem RowCt.keep {w w' : World} {b off n : Nat} {C : Nat → Ct} (h : RowCt w b off n C) (hs : w.heap.size ≤ w'.heap.size) (hk : w'.heap[b]? = w.heap[b]?) : RowCt w' b off n C :=
  ⟨Nat.lt_of_lt_of_le h.lt hs, fun j hj => (h.get j hj).keep hk⟩
theorem RowCt.below {w w' : World} {b off n : Nat} {C : Nat → Ct} (h : RowCt w b off n C) (hb : Below w.heap.size w w') : RowCt w' b off n C := h.keep hb.size (hb.block b h.lt)
theorem RowCt.grown {w w' : World} {b off n r : Nat} {C : Nat → Ct} (h : RowCt w b off n C) (hg : w.grownBy w' (some r)) (hne : b ≠ r) : RowCt w' b off n C := h.keep hg.size (hg.block b h.lt (by simpa using hne))
theorem RowCt.drew {w : World} {b off n : Nat} {C : Nat → Ct} (h : RowCt w b off n C) : RowCt w.drew b off n C := h.below (Below.refl _ _).drew
/-- Without the first one. -/
theorem RowCt.tail {w : World} {b off n : Nat} {C : Nat → Ct} (h : RowCt w b off (n + 1) C) : RowCt w b (off + 6) n (fun j => C (j + 1)) :=
  ⟨h.lt, fun j hj => by
    have := h.get (j + 1) (by omega)
    rw [show off + (j + 1) * 6 = off + 6 + j * 6 by omega] at this
    exact this⟩
/-- A block of n contents, known whole. -/
def CtBlk (w : World) (g n : Nat) (C : Nat → Ct) : Prop := ∃ l, Whole w g 57 l ∧ l.length = n * 6 ∧ ∀ j, j < n → ∀ i v, (C j).cs[i]? = some v → l[j * 6 + i]? = some v
section
variable {w w' : World} {g n : Nat} {C : Nat → Ct}
theorem CtBlk.lt (h : CtBlk w g n C) : g < w.heap.size := by
  obtain ⟨l, hl, _⟩ := h
  exact hl.lt
theorem CtBlk.keep (h : CtBlk w g n C) (hk : w'.heap[g]? = w.heap[g]?) : CtBlk w' g n C := by
  obtain ⟨l, hl, h1, h2⟩ := h
  exact ⟨l, hl.keep hk, h1, h2⟩
theorem CtBlk.below (h : CtBlk w g n C) (hb : Below w.heap.size w w') : CtBlk w' g n C := h.keep (hb.block g h.lt)
theorem CtBlk.row (h : CtBlk w g n C) : RowCt w g 0 n C := by
  obtain ⟨l, hl, h1, h2⟩ := h
  refine ⟨hl.lt, fun j hj => ?_⟩
  have e : ∀ i v, (C j).cs[i]? = some v → w.cell? ⟨g, 0 + j * 6 + i, none⟩ = some v := fun i v hv => by
    rw [hl.cell, Nat.zero_add]
    exact h2 j hj i v hv
  exact ⟨e 0 _ rfl, e 1 _ rfl, e 2 _ rfl, e 3 _ rfl, e 4 _ rfl, e 5 _ rfl⟩
theorem CtBlk.cell (h : CtBlk w g n C) {j : Nat} (hj : j < n) {i : Nat} (hi : i < 6) : ∃ v, w.cell? ⟨g, j * 6 + i, none⟩ = some v := by
  obtain ⟨l, hl, h1, h2⟩ := h
  exact ⟨l[j * 6 + i]'(by omega), by rw [hl.cell, List.getElem?_eq_getElem]⟩
theorem CtBlk.free (h : CtBlk w g n C) (j : Nat) : w.frozen? ⟨g, j, none⟩ = false := by
  obtain ⟨l, hl, _⟩ := h
  exact hl.free j
/-- One is stored. -/
theorem CtBlk.set (h : CtBlk w g n C) {j : Nat} (hj : j < n) (c : Ct) :
    CtBlk ((((((w.setCell ⟨g, j * 6, none⟩ (.int .i64 (c.kd : Int))).setCell ⟨g, j * 6 + 1, none⟩ (.int .i64 (c.ag : Int))).setCell ⟨g, j * 6 + 2, none⟩ (.int .i64 (c.nu : Int))).setCell ⟨g, j * 6 + 3, none⟩ (.int .i64 (c.pl : Int))).setCell ⟨g, j * 6 + 4, none⟩ (.int .i64 (c.sz : Int))).setCell ⟨g, j * 6 + 5, none⟩ (sv c.tx)) g n (fun i => if i = j then c else C i) := by
  obtain ⟨l, hl, h1, h2⟩ := h
  refine ⟨_, (((((hl.set (j * 6) _).set (j * 6 + 1) _).set (j * 6 + 2) _).set (j * 6 + 3) _).set (j * 6 + 4) _).set (j * 6 + 5) _, by simpa using h1, fun k hk i v hv => ?_⟩
  have hi : i < 6 := (List.getElem?_eq_some_iff.1 hv).1
  by_cases e : k = j
  · subst e
    simp only [if_pos] at hv
    simp only [List.getElem?_set, List.length_set]
    rcases (by omega : i = 0 ∨ i = 1 ∨ i = 2 ∨ i = 3 ∨ i = 4 ∨ i = 5) with rfl | rfl | rfl | rfl | rfl | rfl <;> simp [Ct.cs] at hv <;> subst hv <;> simp <;> omega
  · dsimp only at hv
    rw [if_neg e] at hv
    have := h2 k hk i v hv
    simp only [List.getElem?_set, List.length_set]
    rw [if_neg (by omega), if_neg (by omega), if_neg (by omega), if_neg (by omega), if_neg (by omega), if_neg (by omega)]
    exact this
end
theorem grown_sets6 {wr : World} {b o : Nat} (v0 v1 v2 v3 v4 v5 : Value) :
    wr.grownBy ((((((wr.setCell ⟨b, o, none⟩ v0).setCell ⟨b, o + 1, none⟩ v1).setCell ⟨b, o + 2, none⟩ v2).setCell ⟨b, o + 3, none⟩ v3).setCell ⟨b, o + 4, none⟩ v4).setCell ⟨b, o + 5, none⟩ v5) (some b) :=
  grown_trans (grown_trans (grown_trans (grown_trans (grown_trans (grown_set _ b o v0) (grown_set _ b (o + 1) v1)) (grown_set _ b (o + 2) v2)) (grown_set _ b (o + 3) v3)) (grown_set _ b (o + 4) v4)) (grown_set _ b (o + 5) v5)

/-! ### The log's struct -/
/-- The cells of a log's struct. -/
def lgc (p fr se ag fi st : Nat) (z : Value) : List Value := [.pointer (some ⟨p, 0, none⟩), .int .i64 (fr : Int), .int .i64 (se : Int), .int .i64 (ag : Int), .int .i64 (fi : Int), .int .i64 (st : Int), z]
/-- A log: its struct in block g. -/
def LAt (w : World) (g p fr se ag fi st : Nat) (z : Value) : Prop := Whole w g 47 (lgc p fr se ag fi st z)
section
variable {w w' : World} {g p fr se ag fi st : Nat} {z : Value}
theorem LAt.lt (h : LAt w g p fr se ag fi st z) : g < w.heap.size := Whole.lt h
theorem LAt.c0 (h : LAt w g p fr se ag fi st z) : w.cell? ⟨g, 0, none⟩ = some (.pointer (some ⟨p, 0, none⟩)) := by rw [Whole.cell h 0]; rfl
theorem LAt.c1 (h : LAt w g p fr se ag fi st z) : w.cell? ⟨g, 1, none⟩ = some (.int .i64 (fr : Int)) := by rw [Whole.cell h 1]; rfl
theorem LAt.c2 (h : LAt w g p fr se ag fi st z) : w.cell? ⟨g, 2, none⟩ = some (.int .i64 (se : Int)) := by rw [Whole.cell h 2]; rfl
theorem LAt.c3 (h : LAt w g p fr se ag fi st z) : w.cell? ⟨g, 3, none⟩ = some (.int .i64 (ag : Int)) := by rw [Whole.cell h 3]; rfl
theorem LAt.c4 (h : LAt w g p fr se ag fi st z) : w.cell? ⟨g, 4, none⟩ = some (.int .i64 (fi : Int)) := by rw [Whole.cell h 4]; rfl
theorem LAt.c5 (h : LAt w g p fr se ag fi st z) : w.cell? ⟨g, 5, none⟩ = some (.int .i64 (st : Int)) := by rw [Whole.cell h 5]; rfl
theorem LAt.c6 (h : LAt w g p fr se ag fi st z) : w.cell? ⟨g, 6, none⟩ = some z := by rw [Whole.cell h 6]; rfl
theorem LAt.free (h : LAt w g p fr se ag fi st z) (j : Nat) : w.frozen? ⟨g, j, none⟩ = false := Whole.free h j
theorem LAt.keep (h : LAt w g p fr se ag fi st z) (hk : w'.heap[g]? = w.heap[g]?) : LAt w' g p fr se ag fi st z := Whole.keep h hk
theorem LAt.below (h : LAt w g p fr se ag fi st z) (hb : Below w.heap.size w w') : LAt w' g p fr se ag fi st z := Whole.below h hb
theorem LAt.alloc (h : LAt w g p fr se ag fi st z) (o : Obj) : LAt (w.alloc o) g p fr se ag fi st z := Whole.alloc h o
theorem LAt.drew (h : LAt w g p fr se ag fi st z) : LAt w.drew g p fr se ag fi st z := h
theorem LAt.set3 (h : LAt w g p fr se ag fi st z) (m : Nat) : LAt (w.setCell ⟨g, 3, none⟩ (.int .i64 (m : Int))) g p fr se m fi st z := Whole.set h 3 _
theorem LAt.set4 (h : LAt w g p fr se ag fi st z) (m : Nat) : LAt (w.setCell ⟨g, 4, none⟩ (.int .i64 (m : Int))) g p fr se ag m st z := Whole.set h 4 _
theorem LAt.set5 (h : LAt w g p fr se ag fi st z) (m : Nat) : LAt (w.setCell ⟨g, 5, none⟩ (.int .i64 (m : Int))) g p fr se ag fi m z := Whole.set h 5 _
theorem LAt.set6 (h : LAt w g p fr se ag fi st z) (y : Value) : LAt (w.setCell ⟨g, 6, none⟩ y) g p fr se ag fi st y := Whole.set h 6 _
end

/-! ### Appends -/
theorem oneCell_own {U : TypeId} {w : World} {base : Nat} {v : Value} {l : List Value} (h : OwnV U w base v l) : v.oneCell' = true := by
  rcases h.2 with ⟨rfl, _⟩ | ⟨g, cap, cur, rfl, _⟩ <;> rfl
theorem slice_own {U : TypeId} {w : World} {base : Nat} {v : Value} {l : List Value} (h : OwnV U w base v l) {n : Nat} (hn : l.length = n) : ∃ A c, v = .slice A n c := by
  obtain ⟨A, c, hv, _⟩ := h.shape hn
  exact ⟨A, c, hv⟩
/-- append(v, x), x in a block of its own. -/
theorem run_app_cell {P : Program} {w : World} (base : Nat) (t ty U : TypeId) (ht : P.underlying t = some (.slice U)) {z : Value} {m : Nat} (hinfo : (P.info? U).map (fun i => (i.zero, i.size, i.bytes)) = some (some z, 1, m)) (hz : z.cells.size = 1) (_hm0 : 0 < m) (hm : m ≤ 16)
    (v : Value) (l : List Value) (hown : OwnV U w base v l) (u : Value) (hu : u.oneCell' = true) (hle : l.length + 1 ≤ 1000000) (hbase : base ≤ w.heap.size) :
    ∃ v' w', (Builtin.append_ #[t, t] ty #[v, .slice (some ⟨w.heap.size, 0, none⟩) 1 1]).run P (w.alloc (.cells #[u] U)) = .ok v' w' ∧ OwnV U w' base v' (l ++ [u]) ∧ w.grownBy w' v.ownBlock ∧ (v'.ownBlock = v.ownBlock ∨ ∃ k, v'.ownBlock = some k ∧ w.heap.size ≤ k) := by
  obtain ⟨i0, hi, hz0, hz1, hz2⟩ := info_parts hinfo
  have hb1 : Below w.heap.size w (w.alloc (.cells #[u] U)) := (Below.refl _ _).alloc (Nat.le_refl _) _
  have ho : OwnV U (w.alloc (.cells #[u] U)) base v l := hown.below hb1
  have hW := Whole.new w #[u] U
  have hmm : (l.length + 1) * m ≤ 1000000 * 16 := Nat.mul_le_mul hle hm
  obtain ⟨v', w', hrun, k1, k2, _, k4⟩ := run_append_own_at (P := P) _ base t ty U i0 z 1 m ht hi hz0 hz1 hz2 hz (by omega) v l.length l ho ⟨w.heap.size, 0, none⟩ 1 1 [u] rfl
    (fun j x hj => by rw [add_plain, Nat.zero_add, hW.cell]; exact hj) (by simpa using hu) (by simp only [maxLen]; omega) (by omega) (Nat.le_trans hbase hb1.size)
  refine ⟨v', w', hrun, ?_, grown_trans (grown_below hb1 _) k2, ?_⟩
  · unfold OwnV
    rw [List.length_append]
    exact k1
  · rcases k4 with k4 | k4
    · exact .inl k4
    · exact .inr ⟨_, k4, hb1.size⟩
/-- Two slices of the call's own, of unlike elements, lie apart. -/
theorem own_apart {U U' : TypeId} {w : World} {base base' : Nat} {v v' : Value} {l l' : List Value} (h : OwnV U w base v l) (h' : OwnV U' w base' v' l') (hne : U ≠ U') {k : Nat} (hk : v.ownBlock = some k) : v'.ownBlock ≠ some k := by
  rcases h'.2 with ⟨rfl, _⟩ | ⟨g', cap', cur', rfl, _, hh', _⟩
  · simp [Value.ownBlock]
  · rcases h.2 with ⟨rfl, _⟩ | ⟨g, cap, cur, rfl, _, hh, _⟩
    · simp [Value.ownBlock] at hk
    · intro he
      have e1 : g = k := by simpa [Value.ownBlock] using hk
      have e2 : g' = k := by simpa [Value.ownBlock] using he
      subst e1
      subst e2
      rw [hh] at hh'
      injection hh' with hh'
      injection hh' with _ ht
      exact hne ht
/-- What grew in a block of one's own, or in a known one: so far only the known one and new ones. -/
theorem grown_own {a w w' : World} {g : Nat} {r : Option Nat} (h : a.grownBy w (some g)) (hg : w.grownBy w' r) (hr : ∀ k, r = some k → a.heap.size ≤ k ∨ k = g) : a.grownBy w' (some g) :=
  ⟨hg.os.trans h.os, hg.tape.trans h.tape, hg.output.trans h.output, Nat.le_trans h.size hg.size, fun i hi hne =>
    (hg.block i (Nat.lt_of_lt_of_le hi h.size) (fun e => by
      rcases hr i e.symm with q | q
      · omega
      · exact hne (by rw [q]))).trans (h.block i hi hne)⟩
end Go.Proofs.Ytcogglanbpphpaa

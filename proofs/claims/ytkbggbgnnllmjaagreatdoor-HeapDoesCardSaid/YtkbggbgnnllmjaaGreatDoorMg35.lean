/-
  The document's OpFree: memory of its walk.
  Memory of the document's operations on objects: boxes, and a heap's rows.
  The document's OpFree: contract.
-/
import Derived.Test.YtkbggbgnnllmjaaGreatDoorMg26
import Derived.Test.YtkbggbgnnllmjaaGreatDoorMg18
import Derived.Test.YtkbggbgnnllmjaaGreatDoorMg11
namespace Go.Proofs.YtkbggbgnnllmjaaGreatDoor
open Go.RowKit

/-- A row of links turns. -/
theorem OwnOs.putL {U I : TypeId} {w w' : World} {base k : Nat} {v : Value} {os : List (Ob × OSl)} {q : Ob × OSl} {l' : List Int} (h : OwnOs U I w base v os) (hUI : U ≠ I) (hq : os[k]? = some q) (hg : w.grownBy w' q.2.lv.ownBlock) (ho : OwnV I w' base q.2.lv (ivs l')) :
    OwnOs U I w' base v (os.set k ({ q.1 with ls := l' }, q.2)) := by
  have hqm := List.mem_of_getElem? hq
  have hi := (List.getElem?_eq_some_iff.1 hq).1
  refine ⟨?_, fun r hr => ?_, by rw [blocksOf_set hq]; exact h.apart⟩
  · rw [List.length_set, ocs_set (x := { q.1 with ls := l' }) hq rfl rfl]
    exact row_keep h.row fun j hj => hg.block j (h.row_lt j hj).2 fun e => h.row_ne hUI j (mem_blocks.2 ⟨q, hqm, .inr e.symm⟩) hj
  · rcases set_mem hr hi with e | ⟨i', hne, hq'⟩
    · subst e
      have h1 := h.ints q hqm
      exact ⟨h1.1.keep fun j hj => hg.block j (h1.1.lt j hj).2 fun e => h.same hqm hj e.symm, ho⟩
    · have h1 := h.ints r (List.mem_of_getElem? hq')
      have hno := h.other hq hq' (fun e => hne e.symm)
      exact ⟨h1.1.keep fun j hj => hg.block j (h1.1.lt j hj).2 fun e => hno j (mem_two.2 (.inr e.symm)) (mem_two.2 (.inl hj)),
        h1.2.keep fun j hj => hg.block j (h1.2.lt j hj).2 fun e => hno j (mem_two.2 (.inr e.symm)) (mem_two.2 (.inr hj))⟩
theorem ocs_unp (g : Int) (os : List (Ob × OSl)) : ocs (os.map (unp g)) = ocs os := by
  unfold ocs
  rw [List.flatMap_map]
  rfl
theorem blocksOf_unp (g : Int) (os : List (Ob × OSl)) : blocksOf (os.map (unp g)) = blocksOf os := by
  unfold blocksOf
  rw [List.flatMap_map]
  rfl
/-- The walk's memory: the boxes of the heap, of the results, of what goes; the heap's rows; a row that grows. -/
structure FrMem (w : World) (base : Nat) (hc rc qc gcs : List Value) (v vF : Value) (os' : List (Ob × OSl)) (fr : List Blk) (vl : Value) (rl : List (Ob × OSl)) (W : World) : Prop where
  kh : Whole W w.heap.size 26 hc
  kr : Whole W (w.heap.size + 1) 26 rc
  kq : Whole W (w.heap.size + 1 + 1) 34 qc
  kg : Whole W (w.heap.size + 1 + 1 + 1) 52 gcs
  own : OwnOs 52 3 W base v os'
  low : (∀ k, v.ownBlock = some k → k < w.heap.size) ∧ ∀ k ∈ blocksOf os', k < w.heap.size
  nob : ∀ k, vF.ownBlock = some k → k < w.heap.size ∨ w.heap.size + 1 + 1 + 1 < k
  fr : OwnB 49 W base vF fr
  row : W.ownsRow (w.heap.size + 1 + 1 + 1 + 1) 52 5 vl rl.length (ocs rl)
  bel : Below base w W
  kp : ∀ k, k < w.heap.size → k ∉ blocksOf os' → W.heap[k]? = w.heap[k]?
section
variable {w W W' : World} {base : Nat} {hc rc qc gcs : List Value} {v vF vl vl' vF' : Value} {os' rl : List (Ob × OSl)} {fr fr' : List Blk}
theorem FrMem.size (M : FrMem w base hc rc qc gcs v vF os' fr vl rl W) : w.heap.size + 1 + 1 + 1 < W.heap.size := M.kg.lt
theorem FrMem.below (M : FrMem w base hc rc qc gcs v vF os' fr vl rl W) (b : Below W.heap.size W W') (hb : base ≤ w.heap.size) : FrMem w base hc rc qc gcs v vF os' fr vl rl W' :=
  ⟨M.kh.below b, M.kr.below b, M.kq.below b, M.kg.below b, M.own.below b, M.low, M.nob, M.fr.below b, row_keep M.row fun k hk => b.block k (World.ownsRow.lt M.row k hk).2, M.bel.trans (b.mono (by have := M.size; omega)), fun k hk hn => (b.block k (by have := M.size; omega)).trans (M.kp k hk hn)⟩
/-- Links of an object turn. -/
theorem FrMem.putL {k : Nat} {q : Ob × OSl} {l' : List Int} (M : FrMem w base hc rc qc gcs v vF os' fr vl rl W) (hb : base ≤ w.heap.size) (hq : os'[k]? = some q) (hg : W.grownBy W' q.2.lv.ownBlock) (ho : OwnV 3 W' base q.2.lv (ivs l')) :
    FrMem w base hc rc qc gcs v vF (os'.set k ({ q.1 with ls := l' }, q.2)) fr vl rl W' := by
  have hqm := List.mem_of_getElem? hq
  have hlow : ∀ j, q.2.lv.ownBlock = some j → base ≤ j ∧ j < w.heap.size := fun j hj => ⟨(M.own.lt j (mem_blocks.2 ⟨q, hqm, .inr hj⟩)).1, M.low.2 j (mem_blocks.2 ⟨q, hqm, .inr hj⟩)⟩
  have hsz := M.size
  have hW : ∀ {b : Nat} {t : TypeId} {cs : List Value}, w.heap.size ≤ b → Whole W b t cs → Whole W' b t cs := fun {b} {t} {cs} hge K => K.keep (hg.block b K.lt fun e => by have := (hlow b e.symm).2; omega)
  refine ⟨hW (Nat.le_refl _) M.kh, hW (by omega) M.kr, hW (by omega) M.kq, hW (by omega) M.kg, M.own.putL (by decide) hq hg ho, ⟨M.low.1, by rw [blocksOf_set hq]; exact M.low.2⟩, M.nob, ?_, ?_, ?_, fun j hj hn => ?_⟩
  · exact M.fr.keep fun j hj => hg.block j (M.fr.lt j hj).2 fun e => by
      obtain ⟨c1, h1⟩ := row_type M.fr hj
      obtain ⟨c2, h2⟩ := row_type (M.own.ints q hqm).2 e.symm
      exact absurd (heap_types h1 h2) (by decide)
  · exact row_keep M.row fun j hj => hg.block j (World.ownsRow.lt M.row j hj).2 fun e => by have := (hlow j e.symm).2; have := (World.ownsRow.lt M.row j hj).1; omega
  · exact M.bel.grown hg (Nat.le_trans hb (by omega)) fun j hj => (hlow j hj).1
  · rw [blocksOf_set hq] at hn
    exact (hg.block j (by omega) fun e => hn (mem_blocks.2 ⟨q, hqm, .inr e.symm⟩)).trans (M.kp j hj hn)
/-- The row has grown. -/
theorem FrMem.snoc {p : Ob × OSl} (M : FrMem w base hc rc qc gcs v vF os' fr vl rl W) (hb : base ≤ w.heap.size) (hg : W.grownBy W' vl.ownBlock) (hr : W'.ownsRow (w.heap.size + 1 + 1 + 1 + 1) 52 5 vl' (rl.length + 1) (ocs rl ++ oc p)) :
    FrMem w base hc rc qc gcs v vF os' fr vl' (rl ++ [p]) W' := by
  have hlow : ∀ j, vl.ownBlock = some j → w.heap.size + 1 + 1 + 1 + 1 ≤ j := fun j hj => (World.ownsRow.lt M.row j hj).1
  have hsz := M.size
  have hW : ∀ {b : Nat} {t : TypeId} {cs : List Value}, b < w.heap.size + 1 + 1 + 1 + 1 → Whole W b t cs → Whole W' b t cs := fun {b} {t} {cs} hge K => K.keep (hg.block b K.lt fun e => by have := hlow b e.symm; omega)
  refine ⟨hW (by omega) M.kh, hW (by omega) M.kr, hW (by omega) M.kq, hW (by omega) M.kg, ?_, M.low, M.nob, ?_, by rw [List.length_append, List.length_singleton, ocs_snoc]; exact hr, ?_, fun j hj hn => (hg.block j (by omega) fun e => by have := hlow j e.symm; omega).trans (M.kp j hj hn)⟩
  · exact M.own.keep (fun j hj => hg.block j (M.own.row_lt j hj).2 fun e => by have := hlow j e.symm; have := M.low.1 j hj; omega) fun j hj => hg.block j (M.own.lt j hj).2 fun e => by have := hlow j e.symm; have := M.low.2 j hj; omega
  · exact M.fr.keep fun j hj => hg.block j (M.fr.lt j hj).2 fun e => by
      obtain ⟨c1, h1⟩ := row_type M.fr hj
      obtain ⟨c2, h2⟩ := row_type M.row e.symm
      exact absurd (heap_types h1 h2) (by decide)
  · exact M.bel.grown hg (Nat.le_trans hb (by omega)) fun j hj => by have := hlow j hj; omega
theorem FrMem.other (M : FrMem w base hc rc qc gcs v vF os' fr vl rl W) {r : Nat} (hr : w.heap.size ≤ r ∧ r ≤ w.heap.size + 1 + 1 + 1) (hg : W.grownBy W' (some r)) :
    OwnOs 52 3 W' base v os' ∧ OwnB 49 W' base vF fr ∧ W'.ownsRow (w.heap.size + 1 + 1 + 1 + 1) 52 5 vl rl.length (ocs rl) :=
  ⟨M.own.grown hg (fun k hk e => by injection e with e; have := M.low.1 k hk; omega) fun k hk e => by injection e with e; have := M.low.2 k hk; omega,
   M.fr.keep fun k hk => hg.block k (M.fr.lt k hk).2 fun e => by injection e with e; have := M.nob k hk; omega,
   row_keep M.row fun k hk => hg.block k (World.ownsRow.lt M.row k hk).2 fun e => by injection e with e; have := (World.ownsRow.lt M.row k hk).1; omega⟩
/-- A cell of a box is stored. -/
theorem FrMem.heap (M : FrMem w base hc rc qc gcs v vF os' fr vl rl W) (hb : base ≤ w.heap.size) (j : Nat) (u : Value) : FrMem w base (hc.set j u) rc qc gcs v vF os' fr vl rl (W.setCell ⟨w.heap.size, j, none⟩ u) := by
  have hg := grown_set W w.heap.size j u
  have hsz := M.size
  obtain ⟨h1, h2, h3⟩ := M.other ⟨Nat.le_refl _, by omega⟩ hg
  exact ⟨M.kh.set j u, M.kr.grown hg (by omega), M.kq.grown hg (by omega), M.kg.grown hg (by omega), h1, M.low, M.nob, h2, h3, M.bel.grown hg (Nat.le_trans hb (by omega)) fun k hk => by injection hk with hk; omega, fun k hk hn => (hg.block k (by omega) fun e => by injection e with e; omega).trans (M.kp k hk hn)⟩
theorem FrMem.res (M : FrMem w base hc rc qc gcs v vF os' fr vl rl W) (hb : base ≤ w.heap.size) (j : Nat) (u : Value) : FrMem w base hc (rc.set j u) qc gcs v vF os' fr vl rl (W.setCell ⟨w.heap.size + 1, j, none⟩ u) := by
  have hg := grown_set W (w.heap.size + 1) j u
  have hsz := M.size
  obtain ⟨h1, h2, h3⟩ := M.other ⟨by omega, by omega⟩ hg
  exact ⟨M.kh.grown hg (by omega), M.kr.set j u, M.kq.grown hg (by omega), M.kg.grown hg (by omega), h1, M.low, M.nob, h2, h3, M.bel.grown hg (Nat.le_trans hb (by omega)) fun k hk => by injection hk with hk; omega, fun k hk hn => (hg.block k (by omega) fun e => by injection e with e; omega).trans (M.kp k hk hn)⟩
theorem FrMem.told (M : FrMem w base hc rc qc gcs v vF os' fr vl rl W) (hb : base ≤ w.heap.size) (j : Nat) (u : Value) : FrMem w base hc rc (qc.set j u) gcs v vF os' fr vl rl (W.setCell ⟨w.heap.size + 1 + 1, j, none⟩ u) := by
  have hg := grown_set W (w.heap.size + 1 + 1) j u
  have hsz := M.size
  obtain ⟨h1, h2, h3⟩ := M.other ⟨by omega, by omega⟩ hg
  exact ⟨M.kh.grown hg (by omega), M.kr.grown hg (by omega), M.kq.set j u, M.kg.grown hg (by omega), h1, M.low, M.nob, h2, h3, M.bel.grown hg (Nat.le_trans hb (by omega)) fun k hk => by injection hk with hk; omega, fun k hk hn => (hg.block k (by omega) fun e => by injection e with e; omega).trans (M.kp k hk hn)⟩
/-- Other blocks are free. -/
theorem FrMem.putF (M : FrMem w base hc rc qc gcs v vF os' fr vl rl W) (hb : base ≤ w.heap.size) (b : Below W.heap.size W W') (o : OwnB 49 W' W.heap.size vF' fr') : FrMem w base hc rc qc gcs v vF' os' fr' vl rl W' := by
  have hsz := M.size
  have M2 := M.below b hb
  exact ⟨M2.kh, M2.kr, M2.kq, M2.kg, M2.own, M2.low, fun k hk => .inr (by have := (o.lt k hk).1; omega), o.mono (by omega), M2.row, M2.bel, M2.kp⟩
/-- What is left behind the walk. -/
theorem FrMem.owns (M : FrMem w base hc rc qc gcs v vF os' fr vl rl W) {p : Nat} (hb : base ≤ w.heap.size) (hrl : ocs rl = ocs (os'.eraseIdx p)) (hll : rl.length = (os'.eraseIdx p).length) :
    OwnOs 52 3 W base vl (os'.eraseIdx p) := by
  have hsub : (os'.eraseIdx p).Sublist os' := List.eraseIdx_sublist ..
  have hr := M.row
  rw [hrl, hll] at hr
  refine ⟨?_, fun q hq => M.own.ints q (hsub.mem hq), ?_⟩
  · exact row_mono hr (by omega)
  · unfold blocksOf
    exact List.Nodup.sublist (flatMap_sub _ hsub) M.own.apart
theorem FrMem.fin (M : FrMem w base hc zcs rcs gcs v vF os' fr vl rl W) (hb : base ≤ w.heap.size) (a0 a1 a2 a3 a4 a5 a6 a7 b0 b1 : Value) :
    FrMem w base hc [a0, a1, a2, a3, a4, a5, a6, a7] [b0, b1] gcs v vF os' fr vl rl ((((((((((W.setCell ⟨w.heap.size + 1, 0, none⟩ a0).setCell ⟨w.heap.size + 1, 1, none⟩ a1).setCell ⟨w.heap.size + 1, 2, none⟩ a2).setCell ⟨w.heap.size + 1, 3, none⟩ a3).setCell ⟨w.heap.size + 1, 4, none⟩ a4).setCell ⟨w.heap.size + 1, 5, none⟩ a5).setCell ⟨w.heap.size + 1, 6, none⟩ a6).setCell ⟨w.heap.size + 1, 7, none⟩ a7).setCell ⟨w.heap.size + 1 + 1, 0, none⟩ b0).setCell ⟨w.heap.size + 1 + 1, 1, none⟩ b1) :=
  (((((((((M.res hb 0 a0).res hb 1 a1).res hb 2 a2).res hb 3 a3).res hb 4 a4).res hb 5 a5).res hb 6 a6).res hb 7 a7).told hb 0 b0).told hb 1 b1
theorem FrMem.start {n c : Nat} {H : Hp} {A F : Option Addr} {m d : Nat} {os : List (Ob × OSl)} (O : OwnHp w base ⟨A, n, c, F, m, d⟩ os H) (b : Below w.heap.size w W) (hb : base ≤ w.heap.size) (k1 : Whole W w.heap.size 26 hc) (k2 : Whole W (w.heap.size + 1) 26 rc) (k3 : Whole W (w.heap.size + 1 + 1) 34 qc) (k4 : Whole W (w.heap.size + 1 + 1 + 1) 52 gcs) :
    FrMem w base hc rc qc gcs (.slice A n c) (.slice F m d) os H.fr (.slice none 0 0) [] W :=
  ⟨k1, k2, k3, k4, O.objs.below b, ⟨fun k hk => (O.objs.row_lt k hk).2, fun k hk => (O.objs.lt k hk).2⟩, fun k hk => .inl (O.free.lt k hk).2, O.free.below b, World.ownsRow_nil W _ _ 5, b.mono hb, fun k hk _ => b.block k hk⟩
end
/-- A store of a link. -/
theorem own_turn {I : TypeId} {w : World} {base g n c j : Nat} {l : List Int} {x : Int} (h : OwnV I w base (.slice (some ⟨g, 0, none⟩) n c) (ivs l)) (hn : l.length = n) (hj : l[j]? = some x) :
    w.cell? ⟨g, j, none⟩ = some (.int .i64 x) ∧ w.frozen? ⟨g, j, none⟩ = false := by
  have hjl := (List.getElem?_eq_some_iff.1 hj).1
  refine ⟨?_, (int_cell h hn (by omega)).2⟩
  have e := World.ownsRow.cells h (g := g) rfl j _ (ivs_get hj)
  rw [add_plain, Nat.zero_add] at e
  exact e
/-- So far, of the objects. -/
def FrRel (w : World) (base : Nat) (hc gcs : List Value) (v vF : Value) (os : List (Ob × OSl)) (fr : List Blk) (g : Int) (p : Nat) (vl i : Value) (wr : World) : Prop :=
  ∃ (k : Nat) (v' : Value), v' = vl ∧ k ≤ os.length ∧ i = .int .i64 (k : Int) ∧ FrMem w base hc zcs rcs gcs v vF ((os.take k).map (unp g) ++ os.drop k) fr v' ((os.take k).eraseIdx p) wr
/-- So far, of an object's links. -/
def FrIn (w : World) (base : Nat) (hc gcs : List Value) (v vF : Value) (os1 : List (Ob × OSl)) (fr : List Blk) (g : Int) (k : Nat) (q : Ob × OSl) (vl : Value) (rl : List (Ob × OSl)) (bx : Nat) (xcs : List Value) (i : Value) (wr : World) : Prop :=
  ∃ j : Nat, j ≤ q.1.ls.length ∧ i = .int .i64 (j : Int) ∧ FrMem w base hc zcs rcs gcs v vF (os1.set k ({ q.1 with ls := (q.1.ls.take j).map (un g) ++ q.1.ls.drop j }, q.2)) fr vl rl wr ∧ Whole wr bx 52 xcs
/-- So far, of the roots. -/
def rt (g : Int) (k j : Nat) (t : Int) : Int := if j < k then un g t else t
def FrTop (w : World) (base : Nat) (od nx t0 t1 t2 t3 : Int) (gcs : List Value) (v vF : Value) (os' : List (Ob × OSl)) (fr : List Blk) (g : Int) (vl : Value) (rl : List (Ob × OSl)) (i : Value) (wr : World) : Prop :=
  ∃ k : Nat, k ≤ 4 ∧ i = .int .i64 (k : Int) ∧ FrMem w base [.int .i64 od, v, .int .i64 nx, .int .i64 (rt g k 0 t0), .int .i64 (rt g k 1 t1), .int .i64 (rt g k 2 t2), .int .i64 (rt g k 3 t3), vF] zcs rcs gcs v vF os' fr vl rl wr
end Go.Proofs.YtkbggbgnnllmjaaGreatDoor
namespace Go.Proofs.YtkbggbgnnllmjaaGreatDoor
open Go.RowKit

structure AlMem (w : World) (base : Nat) (hc oc rc qc : List Value) (v vF : Value) (os : List (Ob × OSl)) (fr : List Blk) (W : World) : Prop where
  kh : Whole W w.heap.size 26 hc
  ko : Whole W (w.heap.size + 1) 29 oc
  kr : Whole W (w.heap.size + 1 + 1) 26 rc
  kq : Whole W (w.heap.size + 1 + 1 + 1) 34 qc
  own : OwnOs 52 3 W base v os
  nob : (∀ k, v.ownBlock = some k → k < w.heap.size ∨ w.heap.size + 1 + 1 + 1 < k) ∧ (∀ k ∈ blocksOf os, k < w.heap.size ∨ w.heap.size + 1 + 1 + 1 < k) ∧ ∀ k, vF.ownBlock = some k → k < w.heap.size ∨ w.heap.size + 1 + 1 + 1 < k
  fr : OwnB 49 W base vF fr
  bel : Below base w W
section
variable {w W W' : World} {base : Nat} {hc oc rc qc : List Value} {v v' vF vF' : Value} {os : List (Ob × OSl)} {fr fr' : List Blk}
theorem AlMem.size (M : AlMem w base hc oc rc qc v vF os fr W) : w.heap.size + 1 + 1 + 1 < W.heap.size := M.kq.lt
theorem AlMem.start {n c : Nat} {H : Hp} {A F : Option Addr} {m d : Nat} (O : OwnHp w base ⟨A, n, c, F, m, d⟩ os H) (M : FnMem w hc oc W) (hb : base ≤ w.heap.size) : AlMem w base hc oc zcs rcs (.slice A n c) (.slice F m d) os H.fr W :=
  ⟨M.kh, M.ko, M.kr, M.kq, O.objs.below M.bel, ⟨fun k hk => .inl (O.objs.row_lt k hk).2, fun k hk => .inl (O.objs.lt k hk).2, fun k hk => .inl (O.free.lt k hk).2⟩, O.free.below M.bel, M.bel.mono hb⟩
theorem AlMem.below (M : AlMem w base hc oc rc qc v vF os fr W) (b : Below W.heap.size W W') (hb : base ≤ w.heap.size) : AlMem w base hc oc rc qc v vF os fr W' :=
  ⟨M.kh.below b, M.ko.below b, M.kr.below b, M.kq.below b, M.own.below b, M.nob, M.fr.below b, M.bel.trans (b.mono (by have := M.size; omega))⟩
theorem AlMem.other (M : AlMem w base hc oc rc qc v vF os fr W) {r : Nat} (hr : w.heap.size ≤ r ∧ r ≤ w.heap.size + 1 + 1 + 1) (hg : W.grownBy W' (some r)) :
    OwnOs 52 3 W' base v os ∧ OwnB 49 W' base vF fr :=
  ⟨M.own.grown hg (fun k hk e => by injection e with e; have := M.nob.1 k hk; omega) fun k hk e => by injection e with e; have := M.nob.2.1 k hk; omega,
   M.fr.keep fun k hk => hg.block k (M.fr.lt k hk).2 fun e => by injection e with e; have := M.nob.2.2 k hk; omega⟩
theorem AlMem.heap (M : AlMem w base hc oc rc qc v vF os fr W) (hb : base ≤ w.heap.size) (j : Nat) (u : Value) : AlMem w base (hc.set j u) oc rc qc v vF os fr (W.setCell ⟨w.heap.size, j, none⟩ u) := by
  have hg := grown_set W w.heap.size j u
  have hsz := M.size
  obtain ⟨h1, h2⟩ := M.other ⟨Nat.le_refl _, by omega⟩ hg
  exact ⟨M.kh.set j u, M.ko.grown hg (by omega), M.kr.grown hg (by omega), M.kq.grown hg (by omega), h1, M.nob, h2, M.bel.grown hg (Nat.le_trans hb (by omega)) fun k hk => by injection hk with hk; omega⟩
theorem AlMem.res (M : AlMem w base hc oc rc qc v vF os fr W) (hb : base ≤ w.heap.size) (j : Nat) (u : Value) : AlMem w base hc oc (rc.set j u) qc v vF os fr (W.setCell ⟨w.heap.size + 1 + 1, j, none⟩ u) := by
  have hg := grown_set W (w.heap.size + 1 + 1) j u
  have hsz := M.size
  obtain ⟨h1, h2⟩ := M.other ⟨by omega, by omega⟩ hg
  exact ⟨M.kh.grown hg (by omega), M.ko.grown hg (by omega), M.kr.set j u, M.kq.grown hg (by omega), h1, M.nob, h2, M.bel.grown hg (Nat.le_trans hb (by omega)) fun k hk => by injection hk with hk; omega⟩
theorem AlMem.told (M : AlMem w base hc oc rc qc v vF os fr W) (hb : base ≤ w.heap.size) (j : Nat) (u : Value) : AlMem w base hc oc rc (qc.set j u) v vF os fr (W.setCell ⟨w.heap.size + 1 + 1 + 1, j, none⟩ u) := by
  have hg := grown_set W (w.heap.size + 1 + 1 + 1) j u
  have hsz := M.size
  obtain ⟨h1, h2⟩ := M.other ⟨by omega, by omega⟩ hg
  exact ⟨M.kh.grown hg (by omega), M.ko.grown hg (by omega), M.kr.grown hg (by omega), M.kq.set j u, h1, M.nob, h2, M.bel.grown hg (Nat.le_trans hb (by omega)) fun k hk => by injection hk with hk; omega⟩
theorem AlMem.fin (M : AlMem w base hc oc zcs rcs v vF os fr W) (hb : base ≤ w.heap.size) (a0 a1 a2 a3 a4 a5 a6 a7 b0 b1 : Value) :
    AlMem w base hc oc [a0, a1, a2, a3, a4, a5, a6, a7] [b0, b1] v vF os fr ((((((((((W.setCell ⟨w.heap.size + 1 + 1, 0, none⟩ a0).setCell ⟨w.heap.size + 1 + 1, 1, none⟩ a1).setCell ⟨w.heap.size + 1 + 1, 2, none⟩ a2).setCell ⟨w.heap.size + 1 + 1, 3, none⟩ a3).setCell ⟨w.heap.size + 1 + 1, 4, none⟩ a4).setCell ⟨w.heap.size + 1 + 1, 5, none⟩ a5).setCell ⟨w.heap.size + 1 + 1, 6, none⟩ a6).setCell ⟨w.heap.size + 1 + 1, 7, none⟩ a7).setCell ⟨w.heap.size + 1 + 1 + 1, 0, none⟩ b0).setCell ⟨w.heap.size + 1 + 1 + 1, 1, none⟩ b1) :=
  (((((((((M.res hb 0 a0).res hb 1 a1).res hb 2 a2).res hb 3 a3).res hb 4 a4).res hb 5 a5).res hb 6 a6).res hb 7 a7).told hb 0 b0).told hb 1 b1
theorem AlMem.putF (M : AlMem w base hc oc rc qc v vF os fr W) (hb : base ≤ w.heap.size) (b : Below W.heap.size W W') (o : OwnB 49 W' W.heap.size vF' fr') : AlMem w base hc oc rc qc v vF' os fr' W' := by
  have hsz := M.size
  have M2 := M.below b hb
  exact ⟨M2.kh, M2.ko, M2.kr, M2.kq, M2.own, ⟨M2.nob.1, M2.nob.2.1, fun k hk => .inr (by have := (o.lt k hk).1; omega)⟩, o.mono (by omega), M2.bel⟩
/-- A store into a row of an object: of words, of links. -/
theorem AlMem.cellOf (M : AlMem w base hc oc rc qc v vF os fr W) (hb : base ≤ w.heap.size) {g j : Nat} {u : Value} {os' : List (Ob × OSl)} (hg : g ∈ blocksOf os) (ho : OwnOs 52 3 (W.setCell ⟨g, j, none⟩ u) base v os') (hbl : blocksOf os' = blocksOf os) :
    AlMem w base hc oc rc qc v vF os' fr (W.setCell ⟨g, j, none⟩ u) := by
  have gs := grown_set W g j u
  have hsz := M.size
  have hn := M.nob.2.1 g hg
  have hgl := M.own.lt g hg
  obtain ⟨p, hp, e2⟩ := mem_blocks.1 hg
  refine ⟨M.kh.grown gs (by omega), M.ko.grown gs (by omega), M.kr.grown gs (by omega), M.kq.grown gs (by omega), ho, ⟨M.nob.1, by rw [hbl]; exact M.nob.2.1, M.nob.2.2⟩, M.fr.keep fun k hk => gs.block k (M.fr.lt k hk).2 fun e => ?_, M.bel.grown gs (Nat.le_trans hb (by omega)) fun k hk => by injection hk with hk; omega⟩
  injection e with e
  subst e
  obtain ⟨c1, h1⟩ := row_type M.fr hk
  have : ∃ c2, W.heap[k]? = some (.cells c2 3 (0, 0)) := by
    rcases e2 with e2 | e2
    · exact row_type (M.own.ints p hp).1 e2
    · exact row_type (M.own.ints p hp).2 e2
  obtain ⟨c2, h2⟩ := this
  exact absurd (heap_types h1 h2) (by decide)
/-- The rows and the slices lie in a world: the heap. -/
theorem AlMem.heapOf (M : AlMem w base hc oc rc qc v vF os fr W) {A F : Option Addr} {n c m d : Nat} {H : Hp} (hv : v = .slice A n c) (hF : vF = .slice F m d) (ho : H.obs = os.map (·.1)) (hf : H.fr = fr) (h4 : H.tp.length = 4) (hn : H.nx ≤ 9223372036854775807) : OwnHp W base ⟨A, n, c, F, m, d⟩ os H := by
  subst hv hF hf
  exact ⟨M.own, ho, M.fr, h4, hn⟩
end
end Go.Proofs.YtkbggbgnnllmjaaGreatDoor
namespace Go.Proofs.YtkbggbgnnllmjaaGreatDoor
open Go.RowKit

theorem box_three (w : World) (hc : List Value) :
    ∃ W, ((w.alloc (.cells hc.toArray 26)).alloc (.cells zcs.toArray 26)).alloc (.cells rcs.toArray 34) = W ∧ Whole W w.heap.size 26 hc ∧ Whole W (w.heap.size + 1) 26 zcs ∧ Whole W (w.heap.size + 1 + 1) 34 rcs ∧ Below w.heap.size w W ∧ W.heap.size = w.heap.size + 1 + 1 + 1 := by
  have z1 : (w.alloc (.cells hc.toArray 26)).heap.size = w.heap.size + 1 := by simp
  have z2 : ((w.alloc (.cells hc.toArray 26)).alloc (.cells zcs.toArray 26)).heap.size = w.heap.size + 1 + 1 := by simp
  have k1 := Whole.new (w.alloc (.cells hc.toArray 26)) zcs.toArray 26
  have k2 := Whole.new ((w.alloc (.cells hc.toArray 26)).alloc (.cells zcs.toArray 26)) rcs.toArray 34
  rw [z1] at k1
  rw [z2] at k2
  exact ⟨_, rfl, ((Whole.new w hc.toArray 26).alloc _).alloc _, k1.alloc _, k2, (((Grew.refl w).alloc _).alloc _).alloc _ |>.below, by simp⟩
theorem erase_take_eq {α : Type} {l : List α} {p : Nat} : (l.take (p + 1)).eraseIdx p = (l.take p).eraseIdx p := by
  by_cases h : p < l.length
  · rw [List.take_succ_eq_append_getElem h, List.eraseIdx_append_of_length_le (by rw [List.length_take]; omega), List.length_take, Nat.min_eq_left (by omega), Nat.sub_self, List.eraseIdx_of_length_le (k := p) (by rw [List.length_take]; omega)]
    simp
  · rw [List.take_of_length_le (by omega), List.take_of_length_le (by omega)]
theorem erase_take_ne {α : Type} {l : List α} {p k : Nat} {x : α} (hx : l[k]? = some x) (hne : k ≠ p) : (l.take (k + 1)).eraseIdx p = (l.take k).eraseIdx p ++ [x] := by
  have hk := (List.getElem?_eq_some_iff.1 hx).1
  rw [take_snocI hx]
  by_cases h : p < k
  · rw [List.eraseIdx_append_of_lt_length (by rw [List.length_take]; omega)]
  · rw [List.eraseIdx_of_length_le (by rw [List.length_append, List.length_take, List.length_singleton]; omega), List.eraseIdx_of_length_le (by rw [List.length_take]; omega)]
theorem FrTop.list {t0 t1 t2 t3 g : Int} {H : Hp} (h : H.tp = [t0, t1, t2, t3]) (s : HSl) (ob : List Ob) (fr : List Blk) : hcs { H with obs := ob, tp := H.tp.map (un g), fr := fr } s = [.int .i64 H.od, .slice s.A s.n s.c, .int .i64 H.nx, .int .i64 (rt g 4 0 t0), .int .i64 (rt g 4 1 t1), .int .i64 (rt g 4 2 t2), .int .i64 (rt g 4 3 t3), .slice s.F s.m s.d] := by
  unfold hcs tget rt
  rw [h]
  rfl

/-- As InPost; what is none of the rows' blocks stays. -/
def FreePost (w : World) (base : Nat) (os : List (Ob × OSl)) (r : Hp × Int × Int) (e : Ending) (w' : World) : Prop :=
  ∃ s os', e = .returned (.tuple #[hval r.1 s, .agg #[.int .i64 r.2.1, .int .i64 r.2.2]]) ∧ OwnHp w' base s os' r.1 ∧ Below base w w' ∧ ∀ k, k < w.heap.size → k ∉ blocksOf os → w'.heap[k]? = w.heap[k]?

set_option maxRecDepth 100000 in
set_option maxHeartbeats 4000000 in
theorem refFree_in (s : HSl) (os : List (Ob × OSl)) (H : Hp) (w : World) (base : Nat) (O : OwnHp w base s os H) (hb : base ≤ w.heap.size) (hR : RightH H) (hn : s.n ≤ 1000) (hm : s.m ≤ 1000) (hS : ∀ x ∈ H.obs, x.ls.length ≤ 1000) {p : Nat} {x : Ob} (hx : H.obs[p]? = some x) :
    Calls Tryz.prog 99 #[hval H s, .int .i64 (p : Int)] w (FreePost w base os (freeH H p x)) := by
  obtain ⟨ml, hgv, hfree⟩ := freeH_is hR hx
  have HFR := Lib.hid hfree
  have hfit := hR.fits (List.mem_of_getElem? hx)
  have HO := Lib.hid O
  have HRt := Lib.hid hR
  have HSl := Lib.hid hS
  have Hx := Lib.hid hx
  have hol : os.length = s.n := by have := O.rd.obs.len; rw [O.obs, List.length_map] at this; exact this
  have hpl : p < s.n := by rw [← hol]; have h1 := (List.getElem?_eq_some_iff.1 hx).1; rw [O.obs, List.length_map] at h1; exact h1
  obtain ⟨q, hq, hqx⟩ : ∃ q, os[p]? = some q ∧ q.1 = x := by
    have hx' := hx
    rw [O.obs, List.getElem?_map, Option.map_eq_some_iff] at hx'
    exact hx'
  obtain ⟨A, n, c, F, m, d⟩ := s
  simp only at hol hpl hn hm
  obtain ⟨gO, hgO⟩ := row_some (by have h1 := O.objs.row; rw [hol] at h1; exact h1) (by omega : 0 < n)
  simp only at hgO
  subst hgO
  have HG := Lib.hid fun (W : World) (R : RdS W F m H.fr) => (refGive_any H.od F m d H.fr x.bl W R hm).mono fun e w' h => (by
    obtain ⟨m2, er, v, rfl, hres, ho, hbl⟩ := h
    obtain ⟨rfl, rfl⟩ := hres.eq (.inr (.inr ⟨hR.fr, hfit, rfl, hgv⟩))
    obtain ⟨F', d', rfl, _⟩ := ho.shape rfl
    exact ⟨F', _, d', rfl, ho, hbl⟩ : ∃ F' m' d', e = .returned (.tuple #[.slice F' m' d', .int .i64 0]) ∧ OwnB 49 w' W.heap.size (.slice F' m' d') ml ∧ Below W.heap.size W w')
  obtain ⟨t0, t1, t2, t3, htp⟩ := list4 O.tp
  have Htp := Lib.hid htp
  have hg0 : tget H 0 = t0 := by unfold tget; rw [htp]; rfl
  have hg1 : tget H 1 = t1 := by unfold tget; rw [htp]; rfl
  have hg2 : tget H 2 = t2 := by unfold tget; rw [htp]; rfl
  have hg3 : tget H 3 = t3 := by unfold tget; rw [htp]; rfl
  have Hol := Lib.hid hol
  have hpi : (p : Int) < (n : Int) := by omega
  have hints := O.objs.ints q (List.mem_of_getElem? hq)
  obtain ⟨A1, f1, hv1, _, _, _⟩ := OwnV.shape hints.1 (n := q.1.ws.length) (ivs_length _)
  obtain ⟨A2, f2, hv2, _, _, _⟩ := OwnV.shape hints.2 (n := q.1.ls.length) (ivs_length _)
  obtain ⟨W, hW, k1, k2, k3, bw, hz⟩ := box_three w (hcs H ⟨some ⟨gO, 0, none⟩, n, c, F, m, d⟩)
  have z0 := row_cell (O.objs.below bw) hq 0 _ rfl
  have z1 := row_cell (O.objs.below bw) hq 1 _ rfl
  have z2 := row_cell (O.objs.below bw) hq 2 _ rfl
  have z3 := row_cell (O.objs.below bw) hq 3 _ rfl
  have z4 := row_cell (O.objs.below bw) hq 4 _ rfl
  rw [hv1] at z3
  rw [hv2] at z4
  simp only [Nat.add_zero] at z0
  rw [hqx] at z0 z1 z2 z3 z4
  simp only [hcs, zcs, rcs, hg0, hg1, hg2, hg3] at hW k1 k2 k3
  unfold hval
  simp only [hcs, hg0, hg1, hg2, hg3]
  obtain ⟨c0, c1, c2, c3, c4, c5, c6, c7⟩ := k1.eight
  obtain ⟨n1, hn1⟩ : ∃ n1, n1 = x.ws.length := ⟨_, rfl⟩
  obtain ⟨n2, hn2⟩ : ∃ n2, n2 = x.ls.length := ⟨_, rfl⟩
  rw [← hn1] at z3
  rw [← hn2] at z4
  have Hk1 := Lib.hid k1
  have Hk2 := Lib.hid k2
  have Hk3 := Lib.hid k3
  have Hbw := Lib.hid bw
  have Hz := Lib.hid hz
  have Hg := Lib.hid (And.intro hg0 (And.intro hg1 (And.intro hg2 hg3)))
  clear O hR hS hx hfree hfit hgv hol hq hqx htp hg0 hg1 hg2 hg3 hints hv1 hv2 k1 k2 k3 bw hz hn1 hn2
  go_enter Tryz.func99, Tryz.ntmps99
  go_upto_region 1 with (fail)
  try rw [hW]
  clear hW
  go_upto_region 2 with (fail)
  have K4 := Whole.new W #[.int .i64 x.hd, .int .i64 x.bl.1, .int .i64 x.bl.2, .slice A1 n1 f1, .slice A2 n2 f2] 52
  have ba := (Below.refl W.heap.size W).alloc (Nat.le_refl _) (.cells #[.int .i64 x.hd, .int .i64 x.bl.1, .int .i64 x.bl.2, .slice A1 n1 f1, .slice A2 n2 f2] 52)
  have M0 := Lib.hid (FrMem.start HO.out (Hbw.out.trans (ba.mono Hbw.out.size)) hb (Hk1.out.below ba) (Hk2.out.below ba) (Hk3.out.below ba) (by rw [Hz.out] at K4; exact K4))
  rw [Hz.out]
  clear z0 z1 z2 z3 z4 c0 c1 c2 c3 c4 c5 c6 c7 K4 ba
  generalize W.alloc (.cells _ 52) = W1 at M0 ⊢
  clear Hbw Hk1 Hk2 Hk3 Hz
  go_upto_region 4 with (fail)
  obtain ⟨hc, hhc⟩ : ∃ hc : List Value, hc = [.int .i64 H.od, .slice (some ⟨gO, 0, none⟩) n c, .int .i64 H.nx, .int .i64 t0, .int .i64 t1, .int .i64 t2, .int .i64 t3, .slice F m d] := ⟨_, rfl⟩
  obtain ⟨gcs, hgcs⟩ : ∃ gcs : List Value, gcs = [.int .i64 x.hd, .int .i64 x.bl.1, .int .i64 x.bl.2, .slice A1 n1 f1, .slice A2 n2 f2] := ⟨_, rfl⟩
  have Hc1 := Lib.hid (show hc[1]? = some (.slice (some ⟨gO, 0, none⟩) n c) by rw [hhc]; rfl)
  have Hg0 := Lib.hid (show gcs[0]? = some (.int .i64 x.hd) by rw [hgcs]; rfl)
  have M1 := Lib.hid (show FrRel w base hc gcs (.slice (some ⟨gO, 0, none⟩) n c) (.slice F m d) os H.fr x.hd p (.slice none 0 0) (.int .i64 0) W1 from ⟨0, _, rfl, Nat.zero_le _, rfl, by rw [hhc, hgcs]; exact M0.out⟩)
  have Hhc := Lib.hid hhc
  have Hgcs := Lib.hid hgcs
  clear M0 hhc hgcs
  go_loopw [7, 8] (FrRel w base hc gcs (.slice (some ⟨gO, 0, none⟩) n c) (.slice F m d) os H.fr x.hd p) (fun _ i _ => n - (intOf i).toNat)
  case atStart => exact M1.out
  case round =>
    clear M1
    obtain ⟨k, vl, rfl, hk, rfl, M⟩ := hrel
    have hkn : k ≤ n := by have := Hol.out; omega
    clear hk
    have c1 := (M.kh.cell 1).trans Hc1.out
    by_cases hlt : k < n
    · obtain ⟨r, hr⟩ : ∃ r, os[k]? = some r := ⟨_, List.getElem?_eq_getElem (by have := Hol.out; omega)⟩
      obtain ⟨u1, u2⟩ := unp_step (g := x.hd) hr
      have z0 := row_cell M.own u1 0 _ rfl
      have z1 := row_cell M.own u1 1 _ rfl
      have z2 := row_cell M.own u1 2 _ rfl
      have z3 := row_cell M.own u1 3 _ rfl
      have z4 := row_cell M.own u1 4 _ rfl
      simp only [Nat.add_zero] at z0
      have hi := M.own.ints r (List.mem_of_getElem? u1)
      obtain ⟨B1, d1, hv1, _, _, _⟩ := OwnV.shape hi.1 (n := r.1.ws.length) (ivs_length _)
      obtain ⟨B2, d2, hv2, _, _, _⟩ := OwnV.shape hi.2 (n := r.1.ls.length) (ivs_length _)
      have hrl := HSl.out r.1 (by rw [HO.out.obs]; exact List.mem_map_of_mem (List.mem_of_getElem? hr))
      have hki : (k : Int) < (n : Int) := by omega
      obtain ⟨nl, hnl⟩ : ∃ nl, nl = r.1.ls.length := ⟨_, rfl⟩
      obtain ⟨nw, hnw⟩ : ∃ nw, nw = r.1.ws.length := ⟨_, rfl⟩
      rw [← hnl] at hv2 hrl
      rw [← hnw] at hv1
      rw [hv1] at z3
      rw [hv2] at z4
      obtain ⟨os1, hos1⟩ : ∃ os1, os1 = (os.take k).map (unp x.hd) ++ os.drop k := ⟨_, rfl⟩
      rw [← hos1] at M u1 u2
      have ba := (Below.refl wr.heap.size wr).alloc (Nat.le_refl _) (.cells #[.int .i64 r.1.hd, .int .i64 r.1.bl.1, .int .i64 r.1.bl.2, .slice B1 nw d1, .slice B2 nl d2] 52)
      have M2 := Lib.hid (M.below ba hb)
      have Kx := Whole.new wr #[.int .i64 r.1.hd, .int .i64 r.1.bl.1, .int .i64 r.1.bl.2, .slice B1 nw d1, .slice B2 nl d2] 52
      have U1 := Lib.hid u1
      have U2 := Lib.hid u2
      have Hr := Lib.hid hr
      have Hv1 := Lib.hid hv1
      have Hv2 := Lib.hid hv2
      have Hnl := Lib.hid hnl
      have Hocr := Lib.hid (show oc r = [.int .i64 r.1.hd, .int .i64 r.1.bl.1, .int .i64 r.1.bl.2, .slice B1 nw d1, .slice B2 nl d2] by unfold oc; rw [hv1, hv2])
      have Hbig := Lib.hid (show w.heap.size + 1 + 1 + 1 < wr.heap.size from M.size)
      clear M hi hv1 hv2 hr u1 u2 ba hnl hnw hos1
      go_upto_region 7 with (fail)
      obtain ⟨bx, hbx⟩ : ∃ bx, bx = wr.heap.size := ⟨_, rfl⟩
      rw [← hbx] at Kx Hbig ⊢
      clear c1 z0 z1 z2 z3 z4 hbx
      generalize wr.alloc (.cells _ 52) = W2 at M2 Kx ⊢
      obtain ⟨xcs, hxcs⟩ : ∃ xcs : List Value, xcs = [.int .i64 r.1.hd, .int .i64 r.1.bl.1, .int .i64 r.1.bl.2, .slice B1 nw d1, .slice B2 nl d2] := ⟨_, rfl⟩
      have Hxcs := Lib.hid hxcs
      obtain ⟨rl, hrl2⟩ : ∃ rl, rl = (os.take k).eraseIdx p := ⟨_, rfl⟩
      rw [← hrl2] at M2
      have Hrl := Lib.hid hrl2
      have KX := Lib.hid (show Whole W2 bx 52 xcs by rw [hxcs]; exact Kx)
      clear Kx hxcs hrl2
      go_upto_region 8 with (fail)
      go_loopw [10] (FrIn w base hc gcs (.slice (some ⟨gO, 0, none⟩) n c) (.slice F m d) os1 H.fr x.hd k r vl rl bx xcs) (fun i _ => nl - (intOf i).toNat)
      case atStart =>
        refine ⟨0, Nat.zero_le _, rfl, ?_, KX.out⟩
        have h1 : os1.set k ({ r.1 with ls := (r.1.ls.take 0).map (un x.hd) ++ r.1.ls.drop 0 }, r.2) = os1 := list_set_get U1.out
        rw [h1]
        exact M2.out
      case round =>
        clear M2 KX
        obtain ⟨j, hj, rfl, M, KX⟩ := hrel
        have hjn : j ≤ nl := by have := Hnl.out; omega
        clear hj
        have x4 := (KX.cell 4).trans (by rw [Hxcs.out]; rfl : xcs[4]? = some (.slice B2 nl d2))
        by_cases hlj : j < nl
        · obtain ⟨t, ht⟩ : ∃ t, r.1.ls[j]? = some t := ⟨_, List.getElem?_eq_getElem (by have := Hnl.out; omega)⟩
          obtain ⟨s1, s2⟩ := un_step (g := x.hd) ht
          have hkl : k < os1.length := (List.getElem?_eq_some_iff.1 U1.out).1
          obtain ⟨cur, hcur⟩ : ∃ cur, cur = (r.1.ls.take j).map (un x.hd) ++ r.1.ls.drop j := ⟨_, rfl⟩
          rw [← hcur] at M s1 s2
          have hcl : cur.length = nl := by rw [hcur, List.length_append, List.length_map, List.length_take, List.length_drop]; have := Hnl.out; omega
          have hq3 : (os1.set k ({ r.1 with ls := cur }, r.2))[k]? = some ({ r.1 with ls := cur }, r.2) := List.getElem?_set_self hkl
          have MD := M.below (Below.refl _ _).drew hb
          have hI := (MD.own.ints _ (List.mem_of_getElem? hq3)).2
          simp only at hI
          rw [Hv2.out] at hI
          obtain ⟨gl, cl, hvl, _, _⟩ := row_form hI (by rw [ivs_length, hcl]; omega)
          injection hvl with hvl1 _ hvl3
          subst hvl1
          subst hvl3
          obtain ⟨e1, e2⟩ := own_turn hI hcl s1
          have hI0 := (M.own.ints _ (List.mem_of_getElem? hq3)).2
          simp only at hI0
          rw [Hv2.out] at hI0
          obtain ⟨e3, e4⟩ := own_turn hI0 hcl s1
          have g0 := (M.kg.cell 0).trans Hg0.out
          have g0d := (MD.kg.cell 0).trans Hg0.out
          have KXD := KX.drew
          have x4d := (KXD.cell 4).trans (by rw [Hxcs.out]; rfl : xcs[4]? = some (.slice (some ⟨gl, 0, none⟩) nl d2))
          have hji : (j : Int) < (nl : Int) := by omega
          have hglt : gl < w.heap.size := M.low.2 gl (mem_blocks.2 ⟨_, List.mem_of_getElem? hq3, .inr (by simp only; rw [Hv2.out]; rfl)⟩)
          by_cases he : t = x.hd
          · have hd : (t == x.hd) = true := by simp [he]
            have hun : un x.hd t = 0 := by unfold un; rw [if_pos he]
            have MN := MD.putL hb hq3 (W' := wr.drew.setCell ⟨gl, j, none⟩ (.int .i64 0)) (l' := cur.set j 0) (by simp only; rw [Hv2.out]; exact grown_set _ _ _ _) (by simp only; rw [Hv2.out]; exact hI.setI hcl j 0)
            rw [List.set_set] at MN
            simp only at MN
            rw [show cur.set j 0 = (r.1.ls.take (j + 1)).map (un x.hd) ++ r.1.ls.drop (j + 1) by rw [← s2, hun]] at MN
            have HF := Lib.hid (show FrIn w base hc gcs (.slice (some ⟨gO, 0, none⟩) n c) (.slice F m d) os1 H.fr x.hd k r vl rl bx xcs (.int .i64 ((j + 1 : Nat) : Int)) (wr.drew.setCell ⟨gl, j, none⟩ (.int .i64 0)) from ⟨j + 1, by have := Hnl.out; omega, rfl, MN, KXD.grown (grown_set wr.drew gl j (.int .i64 0)) (by have := Hbig.out; omega)⟩)
            clear M MD MN KX KXD hI hI0 s1 s2 hcur hq3 hun ht hcl hkl
            subst he
            go_upto_region 10 with (fail)
            go_region
            all_goals
              go_wp2
              go_roundw
              case rel => first | exact HF.out | (have h9 := HF.out; push_cast at h9; exact h9)
              case measure => simp [intOf]; omega
          · have hd : (t == x.hd) = false := by simp [he]
            have hun : un x.hd t = t := by unfold un; rw [if_neg he]
            have hcs : cur = (r.1.ls.take (j + 1)).map (un x.hd) ++ r.1.ls.drop (j + 1) := by
              rw [← s2, hun]
              obtain ⟨q1, q2⟩ := List.getElem?_eq_some_iff.1 s1
              conv => rhs; rw [← q2]
              rw [List.set_getElem_self]
            rw [hcs] at MD
            have HF := Lib.hid (show FrIn w base hc gcs (.slice (some ⟨gO, 0, none⟩) n c) (.slice F m d) os1 H.fr x.hd k r vl rl bx xcs (.int .i64 ((j + 1 : Nat) : Int)) wr.drew from ⟨j + 1, by have := Hnl.out; omega, rfl, MD, KXD⟩)
            clear M MD KX KXD hI hI0 s1 s2 hcur hq3 hun ht hcl hkl hcs he
            go_upto_region 10 with (fail)
            go_region
            all_goals
              go_wp2
              go_roundw
              case rel => first | exact HF.out | (have h9 := HF.out; push_cast at h9; exact h9)
              case measure => simp [intOf]; omega
        · obtain rfl : j = nl := by omega
          rw [show (r.1.ls.take j).map (un x.hd) ++ r.1.ls.drop j = r.1.ls.map (un x.hd) by rw [List.take_of_length_le (by have := Hnl.out; omega), List.drop_of_length_le (by have := Hnl.out; omega), List.append_nil], show os1.set k ({ r.1 with ls := r.1.ls.map (un x.hd) }, r.2) = (os.take (k + 1)).map (unp x.hd) ++ os.drop (k + 1) from U2.out] at M
          by_cases hkp : k = p
          · have hd : (((k : Nat) : Int) != ((p : Nat) : Int)) = false := by simp [hkp]
            rw [show rl = (os.take (k + 1)).eraseIdx p by rw [Hrl.out, hkp, erase_take_eq]] at M
            have HF := Lib.hid (show FrRel w base hc gcs (.slice (some ⟨gO, 0, none⟩) n c) (.slice F m d) os H.fr x.hd p vl (.int .i64 ((k + 1 : Nat) : Int)) wr from ⟨k + 1, _, rfl, by have := Hol.out; omega, rfl, M⟩)
            clear M KX hlj hkp
            go_wp2
            go_roundw
            case rel => first | exact HF.out | (have h9 := HF.out; push_cast at h9; exact h9)
            case measure => simp [intOf]; omega
          · have hd : (((k : Nat) : Int) != ((p : Nat) : Int)) = true := by simp; omega
            obtain ⟨x0, x1, x2, x3⟩ : _ ∧ _ ∧ _ ∧ _ := ⟨(KX.cell 0).trans (by rw [Hxcs.out]; rfl : xcs[0]? = some (.int .i64 r.1.hd)), (KX.cell 1).trans (by rw [Hxcs.out]; rfl : xcs[1]? = some (.int .i64 r.1.bl.1)), (KX.cell 2).trans (by rw [Hxcs.out]; rfl : xcs[2]? = some (.int .i64 r.1.bl.2)), (KX.cell 3).trans (by rw [Hxcs.out]; rfl : xcs[3]? = some (.slice B1 nw d1))⟩
            have hrll : rl.length ≤ os.length := by rw [Hrl.out, List.length_eraseIdx]; split <;> (rw [List.length_take]; omega)
            obtain ⟨v', w5, hap, hrow, hg, _⟩ := run_appO (P := Tryz.prog) 22 22 Tryz.underlying22 Tryz.infoOb rfl M.row r (by rw [Hv1.out]; rfl) (by rw [Hv2.out]; rfl) (by have := Hol.out; omega) (by have := M.size; omega)
            have MN := M.snoc hb hg hrow
            rw [show rl ++ [r] = (os.take (k + 1)).eraseIdx p by rw [Hrl.out, erase_take_ne Hr.out hkp]] at MN
            have HF := Lib.hid (show FrRel w base hc gcs (.slice (some ⟨gO, 0, none⟩) n c) (.slice F m d) os H.fr x.hd p v' (.int .i64 ((k + 1 : Nat) : Int)) w5 from ⟨k + 1, _, rfl, by have := Hol.out; omega, rfl, MN⟩)
            rw [Hv1.out, Hv2.out] at hap
            clear M MN KX hlj hkp hrow hg hrll
            go_wp2_with (at_builtin; refine wpList_append_run hap rfl _ _ rfl rfl rfl rfl ?_)
            go_roundw
            case rel => first | exact HF.out | (have h9 := HF.out; push_cast at h9; exact h9)
            case measure => simp [intOf]; omega
    · obtain rfl : k = n := by omega
      rw [show (os.take k).map (unp x.hd) ++ os.drop k = os.map (unp x.hd) by rw [List.take_of_length_le (by have := Hol.out; omega), List.drop_of_length_le (by have := Hol.out; omega), List.append_nil], List.take_of_length_le (show os.length ≤ k by have := Hol.out; omega), Hhc.out] at M
      have MT := Lib.hid (show FrTop w base H.od H.nx t0 t1 t2 t3 gcs (.slice (some ⟨gO, 0, none⟩) k c) (.slice F m d) (os.map (unp x.hd)) H.fr x.hd vl (os.eraseIdx p) (.int .i64 0) wr from ⟨0, by omega, rfl, M⟩)
      clear M
      go_upto_region 15 with (fail)
      clear c1
      go_loopw [11] (FrTop w base H.od H.nx t0 t1 t2 t3 gcs (.slice (some ⟨gO, 0, none⟩) k c) (.slice F m d) (os.map (unp x.hd)) H.fr x.hd vl (os.eraseIdx p)) (fun i _ => 4 - (intOf i).toNat)
      case atStart => exact MT.out
      case round =>
        clear MT
        obtain ⟨j, hj, rfl, M⟩ := hrel
        have g0 := (M.kg.cell 0).trans Hg0.out
        by_cases hlj : j < 4
        · have MD := M.below (Below.refl _ _).drew hb
          have g0d := (MD.kg.cell 0).trans Hg0.out
          have fd := MD.kh.free
          have hji : (j : Int) < 4 := by omega
          obtain rfl | rfl | rfl | rfl : j = 0 ∨ j = 1 ∨ j = 2 ∨ j = 3 := by omega
          · have y : wr.cell? ⟨w.heap.size, 3, none⟩ = some (.int .i64 t0) := M.kh.cell 3
            have yd : wr.drew.cell? ⟨w.heap.size, 3, none⟩ = some (.int .i64 t0) := MD.kh.cell 3
            by_cases he : t0 = x.hd
            · have hd : (t0 == x.hd) = true := by simp [he]
              have hz : rt x.hd (0 + 1) 0 t0 = 0 := by unfold rt un; rw [if_pos (by omega), if_pos he]
              have HF := Lib.hid (show FrTop w base H.od H.nx t0 t1 t2 t3 gcs (.slice (some ⟨gO, 0, none⟩) k c) (.slice F m d) (os.map (unp x.hd)) H.fr x.hd vl (os.eraseIdx p) (.int .i64 ((0 + 1 : Nat) : Int)) (wr.drew.setCell ⟨w.heap.size, 3, none⟩ (.int .i64 0)) from ⟨0 + 1, by omega, rfl, by rw [hz]; exact MD.heap hb 3 (.int .i64 0)⟩)
              clear M MD hz he
              go_upto_region 17 with (fail)
              go_region
              all_goals
                go_wp2
                go_roundw
                case rel => first | exact HF.out | (have h9 := HF.out; push_cast at h9; exact h9)
                case measure => simp [intOf]
            · have hd : (t0 == x.hd) = false := by simp [he]
              have hz : rt x.hd (0 + 1) 0 t0 = t0 := by unfold rt un; rw [if_pos (by omega), if_neg he]
              have HF := Lib.hid (show FrTop w base H.od H.nx t0 t1 t2 t3 gcs (.slice (some ⟨gO, 0, none⟩) k c) (.slice F m d) (os.map (unp x.hd)) H.fr x.hd vl (os.eraseIdx p) (.int .i64 ((0 + 1 : Nat) : Int)) wr.drew from ⟨0 + 1, by omega, rfl, by rw [hz]; exact MD⟩)
              clear M MD hz he
              go_upto_region 17 with (fail)
              go_region
              all_goals
                go_wp2
                go_roundw
                case rel => first | exact HF.out | (have h9 := HF.out; push_cast at h9; exact h9)
                case measure => simp [intOf]
          · have y : wr.cell? ⟨w.heap.size, 4, none⟩ = some (.int .i64 t1) := M.kh.cell 4
            have yd : wr.drew.cell? ⟨w.heap.size, 4, none⟩ = some (.int .i64 t1) := MD.kh.cell 4
            by_cases he : t1 = x.hd
            · have hd : (t1 == x.hd) = true := by simp [he]
              have hz : rt x.hd (1 + 1) 1 t1 = 0 := by unfold rt un; rw [if_pos (by omega), if_pos he]
              have HF := Lib.hid (show FrTop w base H.od H.nx t0 t1 t2 t3 gcs (.slice (some ⟨gO, 0, none⟩) k c) (.slice F m d) (os.map (unp x.hd)) H.fr x.hd vl (os.eraseIdx p) (.int .i64 ((1 + 1 : Nat) : Int)) (wr.drew.setCell ⟨w.heap.size, 4, none⟩ (.int .i64 0)) from ⟨1 + 1, by omega, rfl, by rw [hz]; exact MD.heap hb 4 (.int .i64 0)⟩)
              clear M MD hz he
              go_upto_region 17 with (fail)
              go_region
              all_goals
                go_wp2
                go_roundw
                case rel => first | exact HF.out | (have h9 := HF.out; push_cast at h9; exact h9)
                case measure => simp [intOf]
            · have hd : (t1 == x.hd) = false := by simp [he]
              have hz : rt x.hd (1 + 1) 1 t1 = t1 := by unfold rt un; rw [if_pos (by omega), if_neg he]
              have HF := Lib.hid (show FrTop w base H.od H.nx t0 t1 t2 t3 gcs (.slice (some ⟨gO, 0, none⟩) k c) (.slice F m d) (os.map (unp x.hd)) H.fr x.hd vl (os.eraseIdx p) (.int .i64 ((1 + 1 : Nat) : Int)) wr.drew from ⟨1 + 1, by omega, rfl, by rw [hz]; exact MD⟩)
              clear M MD hz he
              go_upto_region 17 with (fail)
              go_region
              all_goals
                go_wp2
                go_roundw
                case rel => first | exact HF.out | (have h9 := HF.out; push_cast at h9; exact h9)
                case measure => simp [intOf]
          · have y : wr.cell? ⟨w.heap.size, 5, none⟩ = some (.int .i64 t2) := M.kh.cell 5
            have yd : wr.drew.cell? ⟨w.heap.size, 5, none⟩ = some (.int .i64 t2) := MD.kh.cell 5
            by_cases he : t2 = x.hd
            · have hd : (t2 == x.hd) = true := by simp [he]
              have hz : rt x.hd (2 + 1) 2 t2 = 0 := by unfold rt un; rw [if_pos (by omega), if_pos he]
              have HF := Lib.hid (show FrTop w base H.od H.nx t0 t1 t2 t3 gcs (.slice (some ⟨gO, 0, none⟩) k c) (.slice F m d) (os.map (unp x.hd)) H.fr x.hd vl (os.eraseIdx p) (.int .i64 ((2 + 1 : Nat) : Int)) (wr.drew.setCell ⟨w.heap.size, 5, none⟩ (.int .i64 0)) from ⟨2 + 1, by omega, rfl, by rw [hz]; exact MD.heap hb 5 (.int .i64 0)⟩)
              clear M MD hz he
              go_upto_region 17 with (fail)
              go_region
              all_goals
                go_wp2
                go_roundw
                case rel => first | exact HF.out | (have h9 := HF.out; push_cast at h9; exact h9)
                case measure => simp [intOf]
            · have hd : (t2 == x.hd) = false := by simp [he]
              have hz : rt x.hd (2 + 1) 2 t2 = t2 := by unfold rt un; rw [if_pos (by omega), if_neg he]
              have HF := Lib.hid (show FrTop w base H.od H.nx t0 t1 t2 t3 gcs (.slice (some ⟨gO, 0, none⟩) k c) (.slice F m d) (os.map (unp x.hd)) H.fr x.hd vl (os.eraseIdx p) (.int .i64 ((2 + 1 : Nat) : Int)) wr.drew from ⟨2 + 1, by omega, rfl, by rw [hz]; exact MD⟩)
              clear M MD hz he
              go_upto_region 17 with (fail)
              go_region
              all_goals
                go_wp2
                go_roundw
                case rel => first | exact HF.out | (have h9 := HF.out; push_cast at h9; exact h9)
                case measure => simp [intOf]
          · have y : wr.cell? ⟨w.heap.size, 6, none⟩ = some (.int .i64 t3) := M.kh.cell 6
            have yd : wr.drew.cell? ⟨w.heap.size, 6, none⟩ = some (.int .i64 t3) := MD.kh.cell 6
            by_cases he : t3 = x.hd
            · have hd : (t3 == x.hd) = true := by simp [he]
              have hz : rt x.hd (3 + 1) 3 t3 = 0 := by unfold rt un; rw [if_pos (by omega), if_pos he]
              have HF := Lib.hid (show FrTop w base H.od H.nx t0 t1 t2 t3 gcs (.slice (some ⟨gO, 0, none⟩) k c) (.slice F m d) (os.map (unp x.hd)) H.fr x.hd vl (os.eraseIdx p) (.int .i64 ((3 + 1 : Nat) : Int)) (wr.drew.setCell ⟨w.heap.size, 6, none⟩ (.int .i64 0)) from ⟨3 + 1, by omega, rfl, by rw [hz]; exact MD.heap hb 6 (.int .i64 0)⟩)
              clear M MD hz he
              go_upto_region 17 with (fail)
              go_region
              all_goals
                go_wp2
                go_roundw
                case rel => first | exact HF.out | (have h9 := HF.out; push_cast at h9; exact h9)
                case measure => simp [intOf]
            · have hd : (t3 == x.hd) = false := by simp [he]
              have hz : rt x.hd (3 + 1) 3 t3 = t3 := by unfold rt un; rw [if_pos (by omega), if_neg he]
              have HF := Lib.hid (show FrTop w base H.od H.nx t0 t1 t2 t3 gcs (.slice (some ⟨gO, 0, none⟩) k c) (.slice F m d) (os.map (unp x.hd)) H.fr x.hd vl (os.eraseIdx p) (.int .i64 ((3 + 1 : Nat) : Int)) wr.drew from ⟨3 + 1, by omega, rfl, by rw [hz]; exact MD⟩)
              clear M MD hz he
              go_upto_region 17 with (fail)
              go_region
              all_goals
                go_wp2
                go_roundw
                case rel => first | exact HF.out | (have h9 := HF.out; push_cast at h9; exact h9)
                case measure => simp [intOf]
        · obtain rfl : j = 4 := by omega
          obtain ⟨F9, d9, hv9, _, _, rF, _, _⟩ := M.fr.shape (n := m) HO.out.rd.fr.len
          injection hv9 with e1 _ e3
          subst e1
          subst e3
          obtain ⟨A', c', hvl⟩ := row_shape M.row rfl
          subst hvl
          obtain ⟨n', hn'⟩ : ∃ n', n' = (os.eraseIdx p).length := ⟨_, rfl⟩
          rw [← hn'] at M ⊢
          have M2 := M.heap hb 1 (.slice A' n' c')
          have cc := M.kh.cell 1
          have cf := M.kh.free 1
          simp only [List.getElem?_cons_succ, List.getElem?_cons_zero, List.set_cons_succ, List.set_cons_zero] at cc M2
          have rF2 : RdS (wr.setCell ⟨w.heap.size, 1, none⟩ (.slice A' n' c')) F m H.fr := by
            obtain ⟨F9, d9, hv9, _, _, r9, _, _⟩ := M2.fr.shape (n := m) HO.out.rd.fr.len
            injection hv9 with e1 _ e3
            subst e1
            exact r9
          have Hn' := Lib.hid hn'
          clear M rF hn' hlj hj
          go_upto_region 20 with (fail)
          generalize wr.setCell ⟨w.heap.size, 1, none⟩ (.slice A' n' c') = W2 at M2 rF2 ⊢
          have c0 := M2.kh.cell 0
          have c7 := M2.kh.cell 7
          simp only [List.getElem?_cons_succ, List.getElem?_cons_zero] at c0 c7
          have y1 := (M2.kg.cell 1).trans (by rw [Hgcs.out]; rfl : gcs[1]? = some (.int .i64 x.bl.1))
          have y2 := (M2.kg.cell 2).trans (by rw [Hgcs.out]; rfl : gcs[2]? = some (.int .i64 x.bl.2))
          have HM2 := Lib.hid M2
          clear cc cf g0 M2
          go_upto_region 21 with (go_at_call 119; refine (HG.out _ rF2).mono ?_; rintro e w20 ⟨F', m', d', rfl, o20, b20⟩)
          have M3 := HM2.out.putF hb b20 o20
          have c7 := M3.kh.cell 7
          have f7 := M3.kh.free 7
          have M4 := M3.heap hb 7 (.slice F' m' d')
          simp only [List.getElem?_cons_succ, List.getElem?_cons_zero, List.set_cons_succ, List.set_cons_zero] at c7 M4
          clear y1 y2 c0 rF2 HM2 b20 o20 M3
          go_upto_region 22 with (fail)
          generalize w20.setCell ⟨w.heap.size, 7, none⟩ (.slice F' m' d') = W4 at M4 ⊢
          obtain ⟨k0, k1, k2, k3, k4, k5, k6, k7⟩ := M4.kh.eight
          have r0 := M4.kr.cell 0
          have r1 := M4.kr.cell 1
          have r2 := M4.kr.cell 2
          have r3 := M4.kr.cell 3
          have r4 := M4.kr.cell 4
          have r5 := M4.kr.cell 5
          have r6 := M4.kr.cell 6
          have r7 := M4.kr.cell 7
          have q0 := M4.kq.cell 0
          have q1 := M4.kq.cell 1
          simp only [zcs, rcs, List.getElem?_cons_succ, List.getElem?_cons_zero] at r0 r1 r2 r3 r4 r5 r6 r7 q0 q1
          have fr := M4.kr.free
          have fq := M4.kq.free
          have M5 := Lib.hid (M4.fin hb (.int .i64 H.od) (.slice A' n' c') (.int .i64 H.nx) (.int .i64 (rt x.hd 4 0 t0)) (.int .i64 (rt x.hd 4 1 t1)) (.int .i64 (rt x.hd 4 2 t2)) (.int .i64 (rt x.hd 4 3 t3)) (.slice F' m' d') (.int .i64 0) (.int .i64 0))
          clear M4 c7 f7
          go_wp2
          refine bodyPost_ret (results_two rfl _ _ (w.heap.size + 1) (w.heap.size + 1 + 1) rfl rfl M5.out.kr M5.out.kq) rfl ?_
          rw [HFR.out]
          have hobs : (H.obs.eraseIdx p).map (unob x.hd) = ((os.map (unp x.hd)).eraseIdx p).map (·.1) := by
            rw [HO.out.obs, map_erase, map_erase, List.map_map, List.map_map]
            rfl
          have hoc : ocs (os.eraseIdx p) = ocs ((os.map (unp x.hd)).eraseIdx p) := by
            rw [← map_erase, ocs_unp]
          have hle : (os.eraseIdx p).length = ((os.map (unp x.hd)).eraseIdx p).length := by
            rw [← map_erase, List.length_map]
          have hO := M5.out.owns (p := p) hb hoc hle
          refine ⟨⟨A', n', c', F', m', d'⟩, (os.map (unp x.hd)).eraseIdx p, ?_, ⟨hO, hobs, M5.out.fr, by show (H.tp.map _).length = 4; rw [List.length_map]; exact HO.out.tp, HO.out.nx⟩, M5.out.bel, fun k hk hn => M5.out.kp k hk (by rw [blocksOf_unp]; exact hn)⟩
          unfold hval
          rw [FrTop.list Htp.out]
end Go.Proofs.YtkbggbgnnllmjaaGreatDoor

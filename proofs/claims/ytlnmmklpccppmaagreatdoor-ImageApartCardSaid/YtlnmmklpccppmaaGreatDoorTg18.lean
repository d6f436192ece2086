/-
  The document's operations on roots: contract. Words for functions that take a heap and an operation.
  A word, a link, a handle of an object of the call's own is written over. Plain lemmas over any program.
  The law's helper that writes over a heap: contract.
-/
import Derived.Test.YtlnmmklpccppmaaGreatDoorTg17
import Derived.BigRegion
namespace Go.Proofs.YtlnmmklpccppmaaGreatDoor
open Go.RowKit
def opcs (o : Opn) : List Value := [.int .i64 o.k, .int .i64 o.h, .int .i64 o.i, .int .i64 o.n, .int .i64 o.kk, .int .i64 o.v, .int .i64 o.t]
def opv (o : Opn) : Value := .agg (opcs o).toArray
def rcs : List Value := [.int .i64 0, .int .i64 0]
/-- Memory of such a function: the heap's box, the operation's, the two results'. -/
structure FnMem (w : World) (hc oc : List Value) (W : World) : Prop where
  kh : Whole W w.heap.size 26 hc
  ko : Whole W (w.heap.size + 1) 50 oc
  kr : Whole W (w.heap.size + 1 + 1) 26 zcs
  kq : Whole W (w.heap.size + 1 + 1 + 1) 59 rcs
  bel : Below w.heap.size w W
theorem FnMem.start (w : World) (hc oc : List Value) : FnMem w hc oc ((((w.alloc (.cells hc.toArray 26)).alloc (.cells oc.toArray 50)).alloc (.cells zcs.toArray 26)).alloc (.cells rcs.toArray 59)) := by
  have z1 : (w.alloc (.cells hc.toArray 26)).heap.size = w.heap.size + 1 := by simp
  have z2 : ((w.alloc (.cells hc.toArray 26)).alloc (.cells oc.toArray 50)).heap.size = w.heap.size + 1 + 1 := by simp
  have z3 : (((w.alloc (.cells hc.toArray 26)).alloc (.cells oc.toArray 50)).alloc (.cells zcs.toArray 26)).heap.size = w.heap.size + 1 + 1 + 1 := by simp
  have k1 := Whole.new (w.alloc (.cells hc.toArray 26)) oc.toArray 50
  have k2 := Whole.new ((w.alloc (.cells hc.toArray 26)).alloc (.cells oc.toArray 50)) zcs.toArray 26
  have k3 := Whole.new (((w.alloc (.cells hc.toArray 26)).alloc (.cells oc.toArray 50)).alloc (.cells zcs.toArray 26)) rcs.toArray 59
  rw [z1] at k1
  rw [z2] at k2
  rw [z3] at k3
  exact ⟨(((Whole.new w hc.toArray 26).alloc _).alloc _).alloc _, (k1.alloc _).alloc _, k2.alloc _, k3, ((((Grew.refl w).alloc _).alloc _).alloc _).alloc _ |>.below⟩
theorem FnMem.below {w W W' : World} {hc oc : List Value} (h : FnMem w hc oc W) (b : Below W.heap.size W W') : FnMem w hc oc W' :=
  ⟨h.kh.below b, h.ko.below b, h.kr.below b, h.kq.below b, h.bel.trans (b.mono h.bel.size)⟩
theorem results_two {fn : Func} {p q : Tmp} (h : fn.results = #[.cell p 26, .cell q 59]) (tmps : Array Value) (w : World) (kp kq : Nat) (hp : tmps.getD p undef = .pointer (some ⟨kp, 0, none⟩)) (hq : tmps.getD q undef = .pointer (some ⟨kq, 0, none⟩))
    {a0 a1 a2 a3 a4 a5 a6 a7 b0 b1 : Value} (K : Whole w kp 26 [a0, a1, a2, a3, a4, a5, a6, a7]) (R : Whole w kq 59 [b0, b1]) : (results fn tmps).run Tryz.prog w = .ok (.tuple #[.agg #[a0, a1, a2, a3, a4, a5, a6, a7], .agg #[b0, b1]]) w := by
  have u1 := Tryz.underlying26
  have z1 := Tryz.sizeOf26
  have i1 := Tryz.isAgg26
  have u2 := Tryz.underlying59
  have z2 := Tryz.sizeOf59
  have i2 := Tryz.isAgg59
  have hp' : tmps[p]?.getD undef = .pointer (some ⟨kp, 0, none⟩) := by simpa using hp
  have hq' : tmps[q]?.getD undef = .pointer (some ⟨kq, 0, none⟩) := by simpa using hq
  have c0 := K.cell 0
  have c1 := K.cell 1
  have c2 := K.cell 2
  have c3 := K.cell 3
  have c4 := K.cell 4
  have c5 := K.cell 5
  have c6 := K.cell 6
  have c7 := K.cell 7
  have d0 := R.cell 0
  have d1 := R.cell 1
  simp only [List.getElem?_cons_succ, List.getElem?_cons_zero] at c0 c1 c2 c3 c4 c5 c6 c7 d0 d1
  simp only [results, h]
  simp [hp', hq', asAddr, loadVar]
  go_simp
/-- Behind the results are stored. -/
theorem FnMem.fin {w W : World} {hc oc : List Value} (h : FnMem w hc oc W) (a0 a1 a2 a3 a4 a5 a6 a7 b0 b1 : Value) :
    Whole ((((((((((W.setCell ⟨w.heap.size + 1 + 1, 0, none⟩ a0).setCell ⟨w.heap.size + 1 + 1, 1, none⟩ a1).setCell ⟨w.heap.size + 1 + 1, 2, none⟩ a2).setCell ⟨w.heap.size + 1 + 1, 3, none⟩ a3).setCell ⟨w.heap.size + 1 + 1, 4, none⟩ a4).setCell ⟨w.heap.size + 1 + 1, 5, none⟩ a5).setCell ⟨w.heap.size + 1 + 1, 6, none⟩ a6).setCell ⟨w.heap.size + 1 + 1, 7, none⟩ a7).setCell ⟨w.heap.size + 1 + 1 + 1, 0, none⟩ b0).setCell ⟨w.heap.size + 1 + 1 + 1, 1, none⟩ b1) (w.heap.size + 1 + 1) 26 [a0, a1, a2, a3, a4, a5, a6, a7] ∧ Whole ((((((((((W.setCell ⟨w.heap.size + 1 + 1, 0, none⟩ a0).setCell ⟨w.heap.size + 1 + 1, 1, none⟩ a1).setCell ⟨w.heap.size + 1 + 1, 2, none⟩ a2).setCell ⟨w.heap.size + 1 + 1, 3, none⟩ a3).setCell ⟨w.heap.size + 1 + 1, 4, none⟩ a4).setCell ⟨w.heap.size + 1 + 1, 5, none⟩ a5).setCell ⟨w.heap.size + 1 + 1, 6, none⟩ a6).setCell ⟨w.heap.size + 1 + 1, 7, none⟩ a7).setCell ⟨w.heap.size + 1 + 1 + 1, 0, none⟩ b0).setCell ⟨w.heap.size + 1 + 1 + 1, 1, none⟩ b1) (w.heap.size + 1 + 1 + 1) 59 [b0, b1] ∧ Below w.heap.size w ((((((((((W.setCell ⟨w.heap.size + 1 + 1, 0, none⟩ a0).setCell ⟨w.heap.size + 1 + 1, 1, none⟩ a1).setCell ⟨w.heap.size + 1 + 1, 2, none⟩ a2).setCell ⟨w.heap.size + 1 + 1, 3, none⟩ a3).setCell ⟨w.heap.size + 1 + 1, 4, none⟩ a4).setCell ⟨w.heap.size + 1 + 1, 5, none⟩ a5).setCell ⟨w.heap.size + 1 + 1, 6, none⟩ a6).setCell ⟨w.heap.size + 1 + 1, 7, none⟩ a7).setCell ⟨w.heap.size + 1 + 1 + 1, 0, none⟩ b0).setCell ⟨w.heap.size + 1 + 1 + 1, 1, none⟩ b1) := by
  have g1 := grown_set8 W (w.heap.size + 1 + 1) a0 a1 a2 a3 a4 a5 a6 a7
  have k1 := (((((((h.kr.set 0 a0).set 1 a1).set 2 a2).set 3 a3).set 4 a4).set 5 a5).set 6 a6).set 7 a7
  have q1 := h.kq.grown g1 (by omega)
  have b1' := below_grown h.bel g1 h.bel.size (by omega)
  generalize ((((((((W.setCell ⟨w.heap.size + 1 + 1, 0, none⟩ a0).setCell ⟨w.heap.size + 1 + 1, 1, none⟩ a1).setCell ⟨w.heap.size + 1 + 1, 2, none⟩ a2).setCell ⟨w.heap.size + 1 + 1, 3, none⟩ a3).setCell ⟨w.heap.size + 1 + 1, 4, none⟩ a4).setCell ⟨w.heap.size + 1 + 1, 5, none⟩ a5).setCell ⟨w.heap.size + 1 + 1, 6, none⟩ a6).setCell ⟨w.heap.size + 1 + 1, 7, none⟩ a7) = W1 at g1 k1 q1 b1' ⊢
  have g2 := grown_trans (grown_set W1 (w.heap.size + 1 + 1 + 1) 0 b0) (grown_set _ (w.heap.size + 1 + 1 + 1) 1 b1)
  exact ⟨k1.grown g2 (by omega), (q1.set 0 b0).set 1 b1, below_grown b1' g2 b1'.size (by omega)⟩
theorem FnMem.heap {w W : World} {hc oc : List Value} (h : FnMem w hc oc W) (j : Nat) (u : Value) : FnMem w (hc.set j u) oc (W.setCell ⟨w.heap.size, j, none⟩ u) := by
  have g := grown_set W w.heap.size j u
  exact ⟨h.kh.set j u, h.ko.grown g (by omega), h.kr.grown g (by omega), h.kq.grown g (by omega), below_grown h.bel g h.bel.size (Nat.le_refl _)⟩
def InPost (w : World) (base : Nat) (r : Hp × Int × Int) (e : Ending) (w' : World) : Prop :=
  ∃ s os, e = .returned (.tuple #[hval r.1 s, .agg #[.int .i64 r.2.1, .int .i64 r.2.2]]) ∧ OwnHp w' base s os r.1 ∧ Below base w w'
theorem tget_set {H : Hp} {i j : Nat} {t : Int} (hi : i < H.tp.length) : tget { H with tp := H.tp.set i t } j = if i = j then t else tget H j := by
  unfold tget
  simp only
  by_cases e : i = j
  · subst e; rw [if_pos rfl, getD_set_self hi]
  · rw [if_neg e, getD_set_ne e]
end Go.Proofs.YtlnmmklpccppmaaGreatDoor
namespace Go.Proofs.YtlnmmklpccppmaaGreatDoor
open Go.RowKit
theorem ivs_set (l : List Int) (j : Nat) (t : Int) : (ivs l).set j (.int .i64 t) = ivs (l.set j t) := by
  unfold ivs
  rw [List.map_set]
/-- An integer of a row of the call's own is stored. -/
theorem OwnV.setI {I : TypeId} {w : World} {base g n c : Nat} {l : List Int} (hn : l.length = n) (h : OwnV I w base (.slice (some ⟨g, 0, none⟩) n c) (ivs l)) (j : Nat) (t : Int) :
    OwnV I (w.setCell ⟨g, j, none⟩ (.int .i64 t)) base (.slice (some ⟨g, 0, none⟩) n c) (ivs (l.set j t)) := by
  unfold OwnV at h ⊢
  rw [ivs_length, hn] at h
  rw [ivs_length, List.length_set, hn, ← ivs_set]
  exact (World.ownsRow.stored h j _).1
section
variable {U I : TypeId} {w : World} {base : Nat} {v : Value} {os : List (Ob × OSl)}
theorem OwnOs.other (h : OwnOs U I w base v os) {i i' : Nat} {p q : Ob × OSl} (hp : os[i]? = some p) (hq : os[i']? = some q) (hne : i ≠ i') : ∀ k ∈ twoB p.2, k ∉ twoB q.2 := by
  have hap := h.apart
  unfold blocksOf List.Nodup at hap
  rw [List.pairwise_flatMap] at hap
  obtain ⟨h1, h2⟩ := List.getElem?_eq_some_iff.1 hp
  obtain ⟨h3, h4⟩ := List.getElem?_eq_some_iff.1 hq
  intro k hk hk'
  rcases Nat.lt_or_gt_of_ne hne with e | e
  · have := List.pairwise_iff_getElem.1 hap.2 i i' h1 h3 e
    rw [h2, h4] at this
    exact this k hk k hk' rfl
  · have := List.pairwise_iff_getElem.1 hap.2 i' i h3 h1 e
    rw [h2, h4] at this
    exact this k hk' k hk rfl
theorem OwnOs.same (h : OwnOs U I w base v os) {p : Ob × OSl} (hp : p ∈ os) {k : Nat} (h1 : p.2.wv.ownBlock = some k) : p.2.lv.ownBlock ≠ some k := by
  have hap := h.apart
  unfold blocksOf List.Nodup at hap
  rw [List.pairwise_flatMap] at hap
  have := hap.1 p hp
  unfold twoB at this
  rw [h1] at this
  intro e
  rw [e] at this
  simp at this
theorem set_mem {i : Nat} {p q : Ob × OSl} (hq : q ∈ os.set i p) (hi : i < os.length) : q = p ∨ ∃ i', i' ≠ i ∧ os[i']? = some q := by
  obtain ⟨j, hj, e⟩ := List.getElem_of_mem hq
  by_cases hji : j = i
  · subst hji
    rw [List.getElem_set_self] at e
    exact .inl e.symm
  · rw [List.getElem_set_ne (by omega)] at e
    exact .inr ⟨j, hji, by rw [List.length_set] at hj; rw [List.getElem?_eq_getElem hj, e]⟩
theorem blocksOf_set {i : Nat} {p : Ob × OSl} {x : Ob} (hp : os[i]? = some p) : blocksOf (os.set i (x, p.2)) = blocksOf os := by
  unfold blocksOf
  rw [List.flatMap_def, List.flatMap_def]
  congr 1
  rw [List.map_set]
  obtain ⟨h1, h2⟩ := List.getElem?_eq_some_iff.1 hp
  simp only
  rw [← h2, ← List.getElem_map (fun p : Ob × OSl => twoB p.2) (h := by simpa using h1), List.set_getElem_self]
theorem ocs_set {i : Nat} {p : Ob × OSl} {x : Ob} (hp : os[i]? = some p) (h1 : x.hd = p.1.hd) (h2 : x.bl = p.1.bl) : ocs (os.set i (x, p.2)) = ocs os := by
  unfold ocs
  rw [List.flatMap_def, List.flatMap_def]
  congr 1
  rw [List.map_set]
  obtain ⟨k1, k2⟩ := List.getElem?_eq_some_iff.1 hp
  have : oc (x, p.2) = oc p := by unfold oc; simp only [h1, h2]
  rw [this, ← k2, ← List.getElem_map oc (h := by simpa using k1), List.set_getElem_self]
/-- A word is stored. -/
theorem OwnOs.setW (h : OwnOs U I w base v os) (hUI : U ≠ I) {i j g n c : Nat} {p : Ob × OSl} (hp : os[i]? = some p) (hw : p.2.wv = .slice (some ⟨g, 0, none⟩) n c) (hn : p.1.ws.length = n) (t : Int) :
    OwnOs U I (w.setCell ⟨g, j, none⟩ (.int .i64 t)) base v (os.set i ({ p.1 with ws := p.1.ws.set j t }, p.2)) := by
  have hpm := List.mem_of_getElem? hp
  have hi := (List.getElem?_eq_some_iff.1 hp).1
  have hg := grown_set w g j (.int .i64 t)
  have hwb : p.2.wv.ownBlock = some g := by rw [hw]; rfl
  have hgb : g ∈ twoB p.2 := mem_two.2 (.inl hwb)
  have hgm : g ∈ blocksOf os := mem_blocks.2 ⟨p, hpm, .inl hwb⟩
  refine ⟨?_, fun q hq => ?_, by rw [blocksOf_set hp]; exact h.apart⟩
  · rw [List.length_set, ocs_set (x := { p.1 with ws := p.1.ws.set j t }) hp rfl rfl]
    exact row_keep h.row fun k hk => hg.block k (h.row_lt k hk).2 fun e => by injection e with e; subst e; exact h.row_ne hUI _ hgm hk
  · rcases set_mem hq hi with e | ⟨i', hne, hq'⟩
    · subst e
      have h1 := h.ints p hpm
      refine ⟨?_, h1.2.keep fun k hk => hg.block k (h1.2.lt k hk).2 fun e => by injection e with e; subst e; exact h.same hpm hwb hk⟩
      simp only
      have h2 := h1.1
      rw [hw] at h2 ⊢
      exact h2.setI hn j t
    · have h1 := h.ints q (List.mem_of_getElem? hq')
      have hno := h.other hp hq' (fun e => hne e.symm) g hgb
      exact ⟨h1.1.keep fun k hk => hg.block k (h1.1.lt k hk).2 fun e => by injection e with e; subst e; exact hno (mem_two.2 (.inl hk)),
        h1.2.keep fun k hk => hg.block k (h1.2.lt k hk).2 fun e => by injection e with e; subst e; exact hno (mem_two.2 (.inr hk))⟩
/-- A link is stored. -/
theorem OwnOs.setL (h : OwnOs U I w base v os) (hUI : U ≠ I) {i j g n c : Nat} {p : Ob × OSl} (hp : os[i]? = some p) (hw : p.2.lv = .slice (some ⟨g, 0, none⟩) n c) (hn : p.1.ls.length = n) (t : Int) :
    OwnOs U I (w.setCell ⟨g, j, none⟩ (.int .i64 t)) base v (os.set i ({ p.1 with ls := p.1.ls.set j t }, p.2)) := by
  have hpm := List.mem_of_getElem? hp
  have hi := (List.getElem?_eq_some_iff.1 hp).1
  have hg := grown_set w g j (.int .i64 t)
  have hwb : p.2.lv.ownBlock = some g := by rw [hw]; rfl
  have hgb : g ∈ twoB p.2 := mem_two.2 (.inr hwb)
  have hgm : g ∈ blocksOf os := mem_blocks.2 ⟨p, hpm, .inr hwb⟩
  refine ⟨?_, fun q hq => ?_, by rw [blocksOf_set hp]; exact h.apart⟩
  · rw [List.length_set, ocs_set (x := { p.1 with ls := p.1.ls.set j t }) hp rfl rfl]
    exact row_keep h.row fun k hk => hg.block k (h.row_lt k hk).2 fun e => by injection e with e; subst e; exact h.row_ne hUI _ hgm hk
  · rcases set_mem hq hi with e | ⟨i', hne, hq'⟩
    · subst e
      have h1 := h.ints p hpm
      refine ⟨h1.1.keep fun k hk => hg.block k (h1.1.lt k hk).2 fun e => by injection e with e; subst e; exact h.same hpm hk hwb, ?_⟩
      simp only
      have h2 := h1.2
      rw [hw] at h2 ⊢
      exact h2.setI hn j t
    · have h1 := h.ints q (List.mem_of_getElem? hq')
      have hno := h.other hp hq' (fun e => hne e.symm) g hgb
      exact ⟨h1.1.keep fun k hk => hg.block k (h1.1.lt k hk).2 fun e => by injection e with e; subst e; exact hno (mem_two.2 (.inl hk)),
        h1.2.keep fun k hk => hg.block k (h1.2.lt k hk).2 fun e => by injection e with e; subst e; exact hno (mem_two.2 (.inr hk))⟩
theorem ocs_hd : ∀ {os : List (Ob × OSl)} {i : Nat} {p : Ob × OSl} (t : Int), os[i]? = some p → ocs (os.set i ({ p.1 with hd := t }, p.2)) = (ocs os).set (i * 5) (.int .i64 t)
  | [], i, p, t, h => by simp at h
  | q :: s, 0, p, t, h => by
    simp at h
    subst h
    rfl
  | q :: s, i + 1, p, t, h => by
    have h1 : ∀ r : List (Ob × OSl), ocs (q :: r) = oc q ++ ocs r := fun r => by simp [ocs]
    have hq : (oc q).length = 5 := rfl
    rw [List.set_cons_succ, h1, h1, ocs_hd t (by simpa using h), List.set_append_right _ _ (by omega), hq, show (i + 1) * 5 - 5 = i * 5 by omega]
/-- A handle is stored. -/
theorem OwnOs.setH {g n c : Nat} (h : OwnOs U I w base (.slice (some ⟨g, 0, none⟩) n c) os) (hUI : U ≠ I) (hn : os.length = n) {i : Nat} {p : Ob × OSl} (hp : os[i]? = some p) (t : Int) :
    OwnOs U I (w.setCell ⟨g, i * 5, none⟩ (.int .i64 t)) base (.slice (some ⟨g, 0, none⟩) n c) (os.set i ({ p.1 with hd := t }, p.2)) := by
  have hg := grown_set w g (i * 5) (.int .i64 t)
  have hi := (List.getElem?_eq_some_iff.1 hp).1
  have hb : ∀ k ∈ blocksOf os, some k ≠ some g := fun k hk e => h.row_ne hUI k hk (by injection e with e; subst e; rfl)
  have hint := fun q (hq : q ∈ os) => h.ints q hq
  refine ⟨?_, fun q hq => ?_, by rw [blocksOf_set hp]; exact h.apart⟩
  · have hr := h.row
    rw [List.length_set, ocs_hd t hp]
    rw [hn] at hr ⊢
    exact (World.ownsRow.stored hr (i * 5) _).1
  · have key : ∀ q', q' ∈ os → OwnV I (w.setCell ⟨g, i * 5, none⟩ (.int .i64 t)) base q'.2.wv (ivs q'.1.ws) ∧ OwnV I (w.setCell ⟨g, i * 5, none⟩ (.int .i64 t)) base q'.2.lv (ivs q'.1.ls) := fun q' hq' =>
      ⟨(hint q' hq').1.keep fun k hk => hg.block k ((hint q' hq').1.lt k hk).2 (hb k (mem_blocks.2 ⟨q', hq', .inl hk⟩)), (hint q' hq').2.keep fun k hk => hg.block k ((hint q' hq').2.lt k hk).2 (hb k (mem_blocks.2 ⟨q', hq', .inr hk⟩))⟩
    rcases set_mem hq hi with e | ⟨i', _, hq'⟩
    · subst e
      exact key p (List.mem_of_getElem? hp)
    · exact key q (List.mem_of_getElem? hq')
end
end Go.Proofs.YtlnmmklpccppmaaGreatDoor
namespace Go.Proofs.YtlnmmklpccppmaaGreatDoor
open Go.RowKit
/-- The same addresses and lengths. -/
def Alike (os os' : List (Ob × OSl)) : Prop := os'.length = os.length ∧ ∀ (i : Nat) (p p' : Ob × OSl), os[i]? = some p → os'[i]? = some p' → p'.2 = p.2 ∧ p'.1.ws.length = p.1.ws.length ∧ p'.1.ls.length = p.1.ls.length
theorem Alike.refl (os : List (Ob × OSl)) : Alike os os := ⟨rfl, fun i p p' h h' => by rw [h] at h'; injection h' with e; subst e; exact ⟨rfl, rfl, rfl⟩⟩
theorem Alike.set {os os' : List (Ob × OSl)} (h : Alike os os') {i : Nat} {p : Ob × OSl} {x : Ob} (hp : os'[i]? = some p) (hw : x.ws.length = p.1.ws.length) (hl : x.ls.length = p.1.ls.length) : Alike os (os'.set i (x, p.2)) := by
  refine ⟨by rw [List.length_set]; exact h.1, fun j q q' hq hq' => ?_⟩
  by_cases e : i = j
  · subst e
    have hi := (List.getElem?_eq_some_iff.1 hp).1
    rw [List.getElem?_set_self hi] at hq'
    injection hq' with hq'
    subst hq'
    obtain ⟨a, b, c⟩ := h.2 i q p hq hp
    exact ⟨a, hw.trans b, hl.trans c⟩
  · rw [List.getElem?_set_ne e] at hq'
    exact h.2 j q q' hq hq'
/-- Memory while it is written over. -/
structure OvMem (w : World) (base : Nat) (cs : List Value) (v vF : Value) (os : List (Ob × OSl)) (m : Nat) (os' : List (Ob × OSl)) (fr : List Blk) (W : World) : Prop where
  own : OwnOs 68 3 W base v os'
  like : Alike os os'
  free : OwnB 65 W base vF fr
  len : fr.length = m
  box : Whole W w.heap.size 26 cs
  bel : Below base w W
section
variable {w W : World} {base m : Nat} {cs : List Value} {v vF : Value} {os os' : List (Ob × OSl)} {fr : List Blk}
theorem free_ne (hF : OwnB 65 W base vF fr) (h : OwnOs 68 3 W base v os') : ∀ k, vF.ownBlock = some k → k ∉ blocksOf os' ∧ v.ownBlock ≠ some k := by
  intro k hk
  obtain ⟨c1, h1⟩ := row_type hF hk
  constructor
  · intro hm
    obtain ⟨p, hp, e⟩ := mem_blocks.1 hm
    have h2 : ∃ cur, W.heap[k]? = some (.cells cur 3 (0, 0)) := by
      rcases e with e | e
      · exact row_type (h.ints p hp).1 e
      · exact row_type (h.ints p hp).2 e
    obtain ⟨c2, h2⟩ := h2
    rw [h1] at h2
    injection h2 with h2
    injection h2 with _ h3
    exact absurd h3 (by decide)
  · intro e
    obtain ⟨c2, h2⟩ := row_type h.row e
    rw [h1] at h2
    injection h2 with h2
    injection h2 with _ h3
    exact absurd h3 (by decide)
theorem OvMem.word (M : OvMem w base cs v vF os m os' fr W) {i j g n c : Nat} {p : Ob × OSl} (hp : os'[i]? = some p) (hw : p.2.wv = .slice (some ⟨g, 0, none⟩) n c) (hn : p.1.ws.length = n) (hb : base ≤ w.heap.size) (hg : g ≠ w.heap.size) (t : Int) :
    OvMem w base cs v vF os m (os'.set i ({ p.1 with ws := p.1.ws.set j t }, p.2)) fr (W.setCell ⟨g, j, none⟩ (.int .i64 t)) := by
  have gs := grown_set W g j (.int .i64 t)
  have hgm : g ∈ blocksOf os' := mem_blocks.2 ⟨p, List.mem_of_getElem? hp, .inl (by rw [hw]; rfl)⟩
  refine ⟨M.own.setW (by decide) hp hw hn t, M.like.set hp (by simp) rfl, M.free.grown gs (fun k hk e => ?_), M.len, M.box.grown gs (fun e => hg e.symm), below_grown M.bel gs (Nat.le_trans hb M.bel.size) (M.own.lt g hgm).1⟩
  injection e with e
  subst e
  exact (free_ne M.free M.own _ hk).1 hgm
theorem OvMem.link (M : OvMem w base cs v vF os m os' fr W) {i j g n c : Nat} {p : Ob × OSl} (hp : os'[i]? = some p) (hw : p.2.lv = .slice (some ⟨g, 0, none⟩) n c) (hn : p.1.ls.length = n) (hb : base ≤ w.heap.size) (hg : g ≠ w.heap.size) (t : Int) :
    OvMem w base cs v vF os m (os'.set i ({ p.1 with ls := p.1.ls.set j t }, p.2)) fr (W.setCell ⟨g, j, none⟩ (.int .i64 t)) := by
  have gs := grown_set W g j (.int .i64 t)
  have hgm : g ∈ blocksOf os' := mem_blocks.2 ⟨p, List.mem_of_getElem? hp, .inr (by rw [hw]; rfl)⟩
  refine ⟨M.own.setL (by decide) hp hw hn t, M.like.set hp rfl (by simp), M.free.grown gs (fun k hk e => ?_), M.len, M.box.grown gs (fun e => hg e.symm), below_grown M.bel gs (Nat.le_trans hb M.bel.size) (M.own.lt g hgm).1⟩
  injection e with e
  subst e
  exact (free_ne M.free M.own _ hk).1 hgm
/-- No block of the rows is the box. -/
theorem OvMem.nobox (M : OvMem w base cs v vF os m os' fr W) : (∀ k ∈ blocksOf os', k ≠ w.heap.size) ∧ (∀ k, v.ownBlock = some k → k ≠ w.heap.size) ∧ ∀ k, vF.ownBlock = some k → k ≠ w.heap.size := by
  have hbx := M.box
  unfold Whole at hbx
  refine ⟨fun k hk e => ?_, fun k hk e => ?_, fun k hk e => ?_⟩
  · subst e
    obtain ⟨p, hp, e⟩ := mem_blocks.1 hk
    have h2 : ∃ cur, W.heap[w.heap.size]? = some (.cells cur 3 (0, 0)) := by
      rcases e with e | e
      · exact row_type (M.own.ints p hp).1 e
      · exact row_type (M.own.ints p hp).2 e
    obtain ⟨c2, h2⟩ := h2
    rw [hbx] at h2
    injection h2 with h2
    injection h2 with _ h3
    exact absurd h3 (by decide)
  · subst e
    obtain ⟨c2, h2⟩ := row_type M.own.row hk
    rw [hbx] at h2
    injection h2 with h2
    injection h2 with _ h3
    exact absurd h3 (by decide)
  · subst e
    obtain ⟨c2, h2⟩ := row_type M.free hk
    rw [hbx] at h2
    injection h2 with h2
    injection h2 with _ h3
    exact absurd h3 (by decide)
theorem OvMem.head {g n c : Nat} (M : OvMem w base cs (.slice (some ⟨g, 0, none⟩) n c) vF os m os' fr W) (hn : os'.length = n) {i : Nat} {p : Ob × OSl} (hp : os'[i]? = some p) (hb : base ≤ w.heap.size) (t : Int) :
    OvMem w base cs (.slice (some ⟨g, 0, none⟩) n c) vF os m (os'.set i ({ p.1 with hd := t }, p.2)) fr (W.setCell ⟨g, i * 5, none⟩ (.int .i64 t)) := by
  have gs := grown_set W g (i * 5) (.int .i64 t)
  have hg := M.nobox.2.1 g rfl
  refine ⟨M.own.setH (by decide) hn hp t, M.like.set hp rfl rfl, M.free.grown gs (fun k hk e => ?_), M.len, M.box.grown gs (fun e => hg e.symm), below_grown M.bel gs (Nat.le_trans hb M.bel.size) (M.own.row_lt g rfl).1⟩
  injection e with e
  subst e
  exact (free_ne M.free M.own _ hk).2 rfl
end
end Go.Proofs.YtlnmmklpccppmaaGreatDoor

/-
  A bag's row: at and drop; a new bag; how many messages it has: contracts.
-/
import Derived.Test.YtgkhjmdghmpfcaaBgBag
namespace Go.Proofs.Ytgkhjmdghmpfcaa
open Go.RowKit

/-- Two results: a message in a variable, a value in a slot. -/
theorem results_mt {P : Program} {fn : Func} {p t : Tmp} {ty : TypeId} (h : fn.results = #[.cell p ty, .tmp t]) (tmps : Array Value) (w : World) (g : Nat) (cs : List Value) (tb : TypeId) (d : TypeDesc)
    (hp : tmps.getD p undef = .pointer (some ⟨g, 0, none⟩)) (hg : Whole w g tb cs) (hu : P.underlying ty = some d) (hd : d.isRow = true) (hi : (P.info? ty).map (·.size) = some cs.length) :
    (results fn tmps).run P w = .ok (.tuple #[.agg cs.toArray, tmps.getD t undef]) w := by
  have hp' : tmps[p]?.getD undef = .pointer (some ⟨g, 0, none⟩) := by simpa using hp
  have hl := run_loadVar_mid (P := P) w g 0 ty cs d (whole_range hg) hu hd hi
  simp [results, h, hp', asAddr, hl]
def AtPost (w : World) (m : Ms) (e : Value) (q : Bool) (x : Ending) (w' : World) : Prop := x = .returned (.tuple #[mval m e, .bool q]) ∧ Below w.heap.size w w'
set_option maxRecDepth 20000 in
set_option maxHeartbeats 1000000 in
theorem at_yes {w : World} {p base room : Nat} {v : Value} {l : List (Ms × Value)} (h : BagAt w p base room v l) {i : Nat} {q : Ms × Value} (hq : l[i]? = some q) :
    Calls Try.prog 30 #[.pointer (some ⟨p, 0, none⟩), .int .i64 (i : Int)] w (AtPost w q.1 q.2 true) := by
  obtain ⟨B, cb, hv, hbc, hbm, hrB, -⟩ := h.rd
  have hil : i < l.length := (List.getElem?_eq_some_iff.1 hq).1
  obtain ⟨W1, a1, n1, hst⟩ := alloc_new w
  have b1 := n1.below
  have c1 := (h.below b1).ptr.cell 1
  have hn : l.length ≤ 200 := Nat.le_trans h.len h.hi
  obtain ⟨b, off, q', hB, hb, hq', hm, hr⟩ := hrB.get hil
  obtain rfl : q' = q := by rw [hq] at hq'; injection hq' with e; exact e.symm
  obtain ⟨W2, st, n2⟩ := hst q'.1 q'.2 hm.one
  have ld := load_ms (range_grown hr (b1.block _ hb))
  rw [hv, hB] at c1
  simp only [List.getElem?_cons_succ, List.getElem?_cons_zero] at c1
  obtain ⟨n, hnn⟩ : ∃ n, n = l.length := ⟨_, rfl⟩
  rw [← hnn] at c1 hil hn hbc
  have hin : (i : Int) < (n : Int) := by omega
  have h0 : ¬ ((i : Int) < 0) := by omega
  have d0 : decide ((i : Int) < 0) = false := by simp
  have d1 : decide ((n : Int) ≤ (i : Int)) = false := by simp; omega
  have HN := Lib.hid n2
  clear h hq hrB hst n1 b1 n2 hB hb hq' hm hr hv hnn hbm
  go_enter Try.func30, Try.ntmps30
  go_wp2_with (first | (refine wpList_alloc_run a1 rfl rfl ?_) | (refine wpList_load_run ld rfl _ rfl rfl ?_) | (refine wpList_store_run st rfl _ _ rfl rfl rfl ?_))
  refine bodyPost_ret (results_mt rfl _ _ w.heap.size _ _ _ rfl HN.out.whole Try.underlying47 rfl (by rw [mcs_len]; exact sizeMs)) rfl ?_
  exact ⟨rfl, HN.out.below⟩
set_option maxRecDepth 20000 in
set_option maxHeartbeats 1000000 in
theorem at_no {w : World} {p base room : Nat} {v : Value} {l : List (Ms × Value)} (h : BagAt w p base room v l) {i : Int} (hi : i < 0 ∨ (l.length : Int) ≤ i) :
    Calls Try.prog 30 #[.pointer (some ⟨p, 0, none⟩), .int .i64 i] w (AtPost w zms zv false) := by
  obtain ⟨B, cb, hv, hbc, hbm, hrB, -⟩ := h.rd
  obtain ⟨W1, a1, n1, -⟩ := alloc_new w
  obtain ⟨W2, a2, n2, -⟩ := alloc_new W1
  have b1 := n1.below
  have c1 := (h.below b1).ptr.cell 1
  have hn : l.length ≤ 200 := Nat.le_trans h.len h.hi
  rw [hv] at c1
  simp only [List.getElem?_cons_succ, List.getElem?_cons_zero] at c1
  obtain ⟨n, hnn⟩ : ∃ n, n = l.length := ⟨_, rfl⟩
  rw [← hnn] at c1 hn hi hbc
  have b12 : Below W1.heap.size W1 W2 := n2.below
  have ld := load_box n2.whole
  obtain ⟨W3, st, k3, g3⟩ := store_ms (n1.whole.below b12) (mcs_len _ _) (m := zms) (e := zv) rfl
  have HK := Lib.hid k3
  have HB := Lib.hid (below_grown (b1.trans (b12.mono b1.size)) g3 (Nat.le_trans b1.size b12.size) (Nat.le_refl _))
  clear h hrB n1 b1 n2 hv hnn hbm k3 g3 b12
  by_cases h0 : i < 0
  · have d0 : decide (i < 0) = true := by simp [h0]
    clear hi
    go_enter Try.func30, Try.ntmps30
    go_wp2_with (first | (refine wpList_alloc_run a1 rfl rfl ?_) | (refine wpList_alloc_run a2 rfl rfl ?_) | (refine wpList_load_run ld rfl _ rfl rfl ?_) | (refine wpList_store_run st rfl _ _ rfl rfl rfl ?_))
    refine bodyPost_ret (results_mt rfl _ _ w.heap.size _ _ _ rfl HK.out Try.underlying47 rfl (by rw [mcs_len]; exact sizeMs)) rfl ?_
    exact ⟨rfl, HB.out⟩
  · have h1 : (n : Int) ≤ i := by omega
    have d0 : decide (i < 0) = false := by simp [h0]
    have d1 : decide ((n : Int) ≤ i) = true := by simp [h1]
    clear hi
    go_enter Try.func30, Try.ntmps30
    go_wp2_with (first | (refine wpList_alloc_run a1 rfl rfl ?_) | (refine wpList_alloc_run a2 rfl rfl ?_) | (refine wpList_load_run ld rfl _ rfl rfl ?_) | (refine wpList_store_run st rfl _ _ rfl rfl rfl ?_))
    refine bodyPost_ret (results_mt rfl _ _ w.heap.size _ _ _ rfl HK.out Try.underlying47 rfl (by rw [mcs_len]; exact sizeMs)) rfl ?_
    exact ⟨rfl, HB.out⟩
end Go.Proofs.Ytgkhjmdghmpfcaa

/-
  A message in a box, in a variable, in a slice of one, appended: what each leaves, told without the world's own words. Plain lemmas.
-/
import Derived.Test.YtgkhjmdghmpfcaaBgMem
import Derived.Test.YtgkhjmdghmpfcaaRunArm
namespace Go.Proofs.Ytgkhjmdghmpfcaa
open Go.RowKit

theorem zip_fold : ∀ (cs pre suf : List Value), suf.length = cs.length → ((cs.zipIdx pre.length).foldl (fun (a : Array Value) (p : Value × Nat) => a.setIfInBounds (0 + p.2) p.1) (pre ++ suf).toArray) = (pre ++ cs).toArray
  | [], pre, suf, h => by
    obtain rfl := List.eq_nil_of_length_eq_zero h
    rfl
  | c :: r, pre, [], h => by simp at h
  | c :: r, pre, s :: suf, h => by
    rw [List.zipIdx_cons, List.foldl_cons]
    have e : (pre ++ s :: suf).toArray.setIfInBounds (0 + pre.length) c = ((pre ++ [c]) ++ suf).toArray := by
      simp
    simp only [e]
    have := zip_fold r (pre ++ [c]) suf (by simpa using h)
    rw [List.length_append, List.length_singleton] at this
    rw [this]
    simp
theorem fill_one {K : Nat} {z cs : List Value} (hz : z.length = K) (hc : cs.length = K) : Instr.fill (fun i => some (i * K, K)) z.toArray [(0, .agg cs.toArray)] = some cs.toArray := by
  have h := zip_fold cs [] z (by omega)
  simp only [List.length_nil, List.nil_append] at h
  simp [Instr.fill, Value.cells, hz, hc]
  simpa using h
theorem range_zero : ((Array.range (1 * 23)).map ((mcs zms zv).toArray[· % 23]!)) = (mcs zms zv).toArray := by kernel_rfl
theorem slice1_ms (w : World) (m : Ms) (e : Value) : (Instr.buildSlice 29 1 #[(0, mval m e)]).run Try.prog w = .ok (.slice (some ⟨w.heap.size, 0, none⟩) 1 1) (w.alloc (mobj m e)) := by
  have hf := fill_one (K := 23) (z := mcs zms zv) (cs := mcs m e) rfl rfl
  have hcs : (mval zms zv).cells = (mcs zms zv).toArray := rfl
  have hsz : (mcs zms zv).toArray.size = 23 := rfl
  have u := Try.underlying29
  have z := Try.sizeOf47
  have hr := range_zero
  rw [Nat.one_mul] at hr
  have hm : mval m e = .agg (mcs m e).toArray := rfl
  simp only [Instr.buildSlice, Sem.run_bind, run_underlying u, Result.andThen_ok, z, Nat.one_mul, if_neg (show ¬ (23 > 2 ^ 24) by decide), if_neg (show ¬ (23 = 0) by decide), Sem.run_pure, zero_ms, hcs, hsz, hr, hm, hf]
  simp [newRow, mobj]
theorem build_ms (w : World) : (Instr.build 47 #[]).run Try.prog w = .ok (mval zms zv) w := by
  have hcs : (mval zms zv).cells = (mcs zms zv).toArray := rfl
  have hw : mval zms zv = .agg (mcs zms zv).toArray := rfl
  have u := Try.underlying47
  simp only [Instr.build, Sem.run_bind, zero_ms, Result.andThen_ok, hcs, run_underlying u]
  simp [hw, Instr.fill]
/-- A block behind what was there. -/
structure NewMs (w W : World) (m : Ms) (e : Value) : Prop where
  whole : Whole W w.heap.size 47 (mcs m e)
  below : Below w.heap.size w W
  size : W.heap.size = w.heap.size + 1
theorem newMs (w : World) (m : Ms) (e : Value) : NewMs w (w.alloc (mobj m e)) m e := ⟨whole_ms w m e, (Below.refl _ _).alloc (Nat.le_refl _) _, by simp⟩
theorem box_new (w : World) (m : Ms) (e : Value) : ∃ W, (Instr.box 47 (mval m e)).run Try.prog w = .ok (.pointer (some ⟨w.heap.size, 0, none⟩)) W ∧ NewMs w W m e := ⟨_, box_ms w m e, newMs w m e⟩
theorem alloc_new (w : World) : ∃ W, (Instr.alloc 47 true (.tuple #[])).run Try.prog w = .ok (.pointer (some ⟨w.heap.size, 0, none⟩)) W ∧ NewMs w W zms zv ∧
    ∀ m e, e.oneCell' = true → ∃ W2, (Instr.storeAt 47 (.pointer (some ⟨w.heap.size, 0, none⟩)) (mval m e)).run Try.prog W = .ok () W2 ∧ NewMs w W2 m e :=
  ⟨_, alloc_ms w, newMs w zms zv, fun m e he => ⟨_, store_box he, newMs w m e⟩⟩
/-- append(v, x), x a message. -/
theorem app_new {w : World} {base n : Nat} {v : Value} {xs : List Value} (hown : w.ownsRow base 47 23 v n xs) (m : Ms) {e : Value} (he : e.oneCell' = true) (hle : n + 1 ≤ 1000000) (hbase : base ≤ w.heap.size) :
    ∃ W v' w', (Instr.buildSlice 29 1 #[(0, mval m e)]).run Try.prog w = .ok (.slice (some ⟨w.heap.size, 0, none⟩) 1 1) W ∧
      (Builtin.append_ #[29, 29] 29 #[v, .slice (some ⟨w.heap.size, 0, none⟩) 1 1]).run Try.prog W = .ok v' w' ∧ w'.ownsRow base 47 23 v' (n + 1) (xs ++ mcs m e) ∧ w.grownBy w' v.ownBlock ∧ (v'.ownBlock = v.ownBlock ∨ ∃ k, v'.ownBlock = some k ∧ w.heap.size ≤ k) := by
  obtain ⟨v', w', h1, h2, h3, h4⟩ := run_appC1 (P := Try.prog) (ty := 29) (t := 29) Try.underlying29 Try.infoMs rfl (by decide) (by decide) hown (news := mcs m e) (cs := (mcs m e).toArray) rfl (mcs_len _ _) (mcs_one m he) hle hbase
  exact ⟨_, v', w', slice1_ms w m e, h1, h2, h3, h4⟩
/-- A slice of one message. -/
theorem slice_new (w : World) (m : Ms) {e : Value} (he : MsgR w (m, e)) : ∃ W, (Instr.buildSlice 29 1 #[(0, mval m e)]).run Try.prog w = .ok (.slice (some ⟨w.heap.size, 0, none⟩) 1 1) W ∧ NewMs w W m e ∧ RdM W (some ⟨w.heap.size, 0, none⟩) 1 [(m, e)] := by
  have h := newMs w m e
  refine ⟨_, slice1_ms w m e, h, rfl, ⟨rfl, fun _ => ⟨_, 0, rfl, h.whole.lt, ?_⟩⟩, fun p hp => ?_⟩
  · have := whole_range h.whole
    simpa [mcl, mcc] using this
  · rw [List.mem_singleton.1 hp]
    exact he.below h.below
end Go.Proofs.Ytgkhjmdghmpfcaa

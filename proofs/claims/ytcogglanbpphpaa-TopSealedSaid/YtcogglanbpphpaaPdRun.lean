/-
  Laws for a walk: an allocation, a load, a store whose run is known. Plain lemmas over any program.
-/
import Derived.Test.YtcogglanbpphpaaPdMath
import Derived.Deep.WholeRow
namespace Go.Proofs.Ytcogglanbpphpaa
open Go.RowKit

section
variable {P : Program} {w w' : World} {ops : Array Oper} {rest : List Oper} {o : Oper} {a : Act} {Q : Exit → Act → World → Prop} {v x : Value} {t : TypeId}
theorem wpList_alloc_run (hrun : (Instr.alloc t true (.tuple #[])).run P w = .ok v w') (hgd : o.guard = none) (ho : o.op = .alloc t)
    (h : wpList P ops Q rest (a.put o.dst v) w') : wpList P ops Q (o :: rest) a w := by
  refine wpList_plain hgd fun K hK => ?_
  unfold Oper.wp execOp
  simp only [ho, Sem.run_bind, Sem.run_pure, Result.andThen_ok, hrun]
  exact hK _ _ h
theorem wpList_load_run (hrun : (Instr.loadAt t x).run P w = .ok v w') (hgd : o.guard = none) (p : Operand) (ho : o.op = .load t p) (hx : a.eval p = x)
    (h : wpList P ops Q rest (a.put o.dst v) w') : wpList P ops Q (o :: rest) a w := by
  refine wpList_plain hgd fun K hK => ?_
  unfold Oper.wp execOp
  simp only [ho, hx, Sem.run_bind, Sem.run_pure, Result.andThen_ok, hrun]
  exact hK _ _ h
theorem wpList_store_run (hrun : (Instr.storeAt t x v).run P w = .ok () w') (hgd : o.guard = none) (p y : Operand) (ho : o.op = .store t p y) (hx : a.eval p = x) (hy : a.eval y = v)
    (h : wpList P ops Q rest (a.put o.dst undef) w') : wpList P ops Q (o :: rest) a w := by
  refine wpList_plain hgd fun K hK => ?_
  unfold Oper.wp execOp
  simp only [ho, hx, hy, Sem.run_bind, Sem.run_pure, Result.andThen_ok, hrun]
  exact hK _ _ h
theorem wpList_mapUpdate_run {m k : Value} (hrun : (Instr.mapUpdate t m k v).run P w = .ok () w') (hgd : o.guard = none) (p q y : Operand) (ho : o.op = .mapUpdate t p q y) (hm : a.eval p = m) (hk : a.eval q = k) (hy : a.eval y = v)
    (h : wpList P ops Q rest (a.put o.dst undef) w') : wpList P ops Q (o :: rest) a w := by
  refine wpList_plain hgd fun K hK => ?_
  unfold Oper.wp execOp
  simp only [ho, hm, hk, hy, Sem.run_bind, Sem.run_pure, Result.andThen_ok, hrun]
  exact hK _ _ h
end
/-- An append whose run is known, as a step of a region that draws. -/
theorem step_append_run7 {P : Program} {ops : Array Oper} {o : Oper} {a : Act} {w w' : World} {K : Act → World → Prop} {Q : Exit → Act → World → Prop} {E : Prop} {v y v' : Value} {t u ty : TypeId}
    (hrun : (Builtin.append_ #[t, u] ty #[v, y]).run P w = .ok v' w') (hgd : o.guard = none) (s x : Operand)
    (ho : o.op = .call { callee := .builtin .append, args := #[s, x], argTypes := #[t, u] }) (hty : o.type = ty) (hs : a.eval s = v) (hx : a.eval x = y)
    (hK : K (a.put o.dst v') w') : if Region.wanted o (yielded ops a.tmps) = true then Oper.wp P o a w K Q else E := by
  have hw : Region.wanted o (yielded ops a.tmps) = true := by simp [Region.wanted, hgd]
  rw [if_pos hw]
  subst hty
  unfold Oper.wp execOp
  simp only [ho, resolve, invoke, builtin, Sem.run_bind, Sem.run_pure, Result.andThen_ok, List.map_toArray, List.map_cons, List.map_nil, hs, hx, hrun]
  exact hK
/-- A sector in a block of its own. -/
def sob (x : List UInt8) : Obj := .cells (bvs x).toArray 65
theorem alloc_sec (w : World) : (Instr.alloc 65 true (.tuple #[])).run Try.prog w = .ok (.pointer (some ⟨w.heap.size, 0, none⟩)) (w.alloc (sob zs)) := by
  have h : (newVar 65 (secv zs)).run Try.prog w = .ok ⟨w.heap.size, 0, none⟩ (w.alloc (sob zs)) := by
    unfold newVar secv Value.cells sob
    generalize (bvs zs).toArray = c
    simp [newRow]
  simp only [Instr.alloc, Sem.run_bind, zero_sec, Result.andThen_ok, h, Sem.run_pure]
theorem store_new (w : World) {x : List UInt8} (hx : x.length = 64) (y : List UInt8) (hy : y.length = 64) :
    (Instr.storeAt 65 (.pointer (some ⟨w.heap.size, 0, none⟩)) (secv x)).run Try.prog (w.alloc (sob y)) = .ok () (w.alloc (sob x)) :=
  run_storeAt_new w 65 (bvs y).toArray (bvs x).toArray (by rw [List.size_toArray, bvs_length, hx]; exact Try.sizeSec) (by simp [bvs_length, hx, hy]) (all_oneCell_toArray (bvs_one x))
/-- A variable for a sector: allocated, and written. -/
theorem var_sec (w : World) : ∃ o1 : Obj, (Instr.alloc 65 true (.tuple #[])).run Try.prog w = .ok (.pointer (some ⟨w.heap.size, 0, none⟩)) (w.alloc o1) ∧ (∀ c, o1 = sob c → c = zs) ∧ o1 = sob zs ∧
    ∀ x : List UInt8, x.length = 64 → ∃ o2 : Obj, (Instr.storeAt 65 (.pointer (some ⟨w.heap.size, 0, none⟩)) (secv x)).run Try.prog (w.alloc o1) = .ok () (w.alloc o2) ∧ o2 = sob x :=
  ⟨_, alloc_sec w, fun c h => by
    unfold sob at h
    have h1 : bvs zs = bvs c := by simpa using h
    exact (secv_inj (by rw [secv, secv, h1])).symm, rfl, fun x hx => ⟨_, store_new w hx zs zs_length, rfl⟩⟩
/-! As a region that draws its order leaves a load and a store: opened down to the cells. -/
theorem load_cells {P : Program} {w : World} {b o : Nat} {x : List UInt8} (h : w.rangeAt b o (bvs x)) (hx : x.length = 64) : (loadCellsFrom ⟨b, o, none⟩ 0 64 #[]).run P w = .ok (bvs x).toArray w := by
  have := run_loadCells_list (P := P) w ⟨b, o, none⟩ (bvs x) (fun j v hv => by rw [Addr.add_mid]; exact h j v hv)
  rw [bvs_length, hx] at this
  exact this
theorem store_cells {P : Program} {w : World} {b o : Nat} {x : List UInt8} (h : w.there b o 64) (hx : x.length = 64) : (storeCells ⟨b, o, none⟩ (bvs x).toArray.toList 0).run P w = .ok () (w.setCells b o (bvs x)) := by
  have hl : (bvs x).length = 64 := by rw [bvs_length, hx]
  have := run_storeCells_cells (P := P) b o (bvs x) 0 w (fun j hj => by simpa using (h j (by omega)).1) (fun j hj => by simpa using (h j (by omega)).2) (fun v hv => bvs_one x v hv)
  simpa using this
theorem size_sec {x : List UInt8} (hx : x.length = 64) : (bvs x).toArray.size = 64 := by simp [bvs_length, hx]
end Go.Proofs.Ytcogglanbpphpaa

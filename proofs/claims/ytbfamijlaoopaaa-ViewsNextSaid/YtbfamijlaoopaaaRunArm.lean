/-
  Laws for a walk: an allocation, a box, a load, a store, an append .. whose run is known. Plain lemmas over any program.
-/
import Derived.Test.YtbfamijlaoopaaaBase
import Derived.Deep.WholeRow
import Derived.Deep.Quiet
namespace Go.Proofs.Ytbfamijlaoopaaa
open Go.RowKit

section
variable {P : Program} {w w' : World} {ops : Array Oper} {rest : List Oper} {o : Oper} {a : Act} {Q : Exit → Act → World → Prop} {v x : Value} {t : TypeId}
theorem wpList_alloc_run (hrun : (Instr.alloc t true (.tuple #[])).run P w = .ok v w') (hgd : o.guard = none) (ho : o.op = .alloc t)
    (h : wpList P ops Q rest (a.put o.dst v) w') : wpList P ops Q (o :: rest) a w := by
  refine wpList_plain hgd fun K hK => ?_
  unfold Oper.wp execOp
  simp only [ho, Sem.run_bind, Sem.run_pure, Result.andThen_ok, hrun]
  exact hK _ _ h
theorem wpList_box_run (hrun : (Instr.box t x).run P w = .ok v w') (hgd : o.guard = none) (p : Operand) (ho : o.op = .box t p) (hx : a.eval p = x)
    (h : wpList P ops Q rest (a.put o.dst v) w') : wpList P ops Q (o :: rest) a w := by
  refine wpList_plain hgd fun K hK => ?_
  unfold Oper.wp execOp
  simp only [ho, hx, Sem.run_bind, Sem.run_pure, Result.andThen_ok, hrun]
  exact hK _ _ h
/-- A slice of one element, written out. -/
theorem wpList_slice1_run (hrun : (Instr.buildSlice t 1 #[(0, x)]).run P w = .ok v w') (hgd : o.guard = none) (p : Operand) (ho : o.op = .buildSlice t 1 #[(0, p)]) (hx : a.eval p = x)
    (h : wpList P ops Q rest (a.put o.dst v) w') : wpList P ops Q (o :: rest) a w := by
  refine wpList_plain hgd fun K hK => ?_
  unfold Oper.wp execOp
  simp only [ho, List.map_toArray, List.map_cons, List.map_nil, hx, Sem.run_bind, Sem.run_pure, Result.andThen_ok, hrun]
  exact hK _ _ h
theorem wpList_load_run (hrun : (Instr.loadAt t x).run P w = .ok v w') (hgd : o.guard = none) (p : Operand) (ho : o.op = .load t p) (hx : a.eval p = x)
    (h : wpList P ops Q rest (a.put o.dst v) w') : wpList P ops Q (o :: rest) a w := by
  refine wpList_plain hgd fun K hK => ?_
  unfold Oper.wp execOp
  simp only [ho, hx, Sem.run_bind, Sem.run_pure, Result.andThen_ok, hrun]
  exact hK _ _ h
theorem wpList_store_run (hrun : (Instr.storeAt t x v).run P w = .ok () w') (hgd : o.guard = none) (p y : Operand) (ho : o.op = .store t p y) (hx : a.eval p = x) (hy : a.eval y = v)
    (h : wpList P ops Q rest (a.put o.dst undef) w') : wpList P ops Q (o :: rest) a w := by
  refine wpList_plain hgd fun K hK => ?_
  unfold Oper.wp execOp
  simp only [ho, hx, hy, Sem.run_bind, Sem.run_pure, Result.andThen_ok, hrun]
  exact hK _ _ h
theorem wpList_mapUpdate_run {m k : Value} (hrun : (Instr.mapUpdate t m k v).run P w = .ok () w') (hgd : o.guard = none) (p q y : Operand) (ho : o.op = .mapUpdate t p q y) (hm : a.eval p = m) (hk : a.eval q = k) (hy : a.eval y = v)
    (h : wpList P ops Q rest (a.put o.dst undef) w') : wpList P ops Q (o :: rest) a w := by
  refine wpList_plain hgd fun K hK => ?_
  unfold Oper.wp execOp
  simp only [ho, hm, hk, hy, Sem.run_bind, Sem.run_pure, Result.andThen_ok, hrun]
  exact hK _ _ h
end
/-- An append whose run is known, as a step of a region that draws. -/
theorem step_append_run7 {P : Program} {ops : Array Oper} {o : Oper} {a : Act} {w w' : World} {K : Act → World → Prop} {Q : Exit → Act → World → Prop} {E : Prop} {v y v' : Value} {t u ty : TypeId}
    (hrun : (Builtin.append_ #[t, u] ty #[v, y]).run P w = .ok v' w') (hgd : o.guard = none) (s x : Operand)
    (ho : o.op = .call { callee := .builtin .append, args := #[s, x], argTypes := #[t, u] }) (hty : o.type = ty) (hs : a.eval s = v) (hx : a.eval x = y)
    (hK : K (a.put o.dst v') w') : if Region.wanted o (yielded ops a.tmps) = true then Oper.wp P o a w K Q else E := by
  have hw : Region.wanted o (yielded ops a.tmps) = true := by simp [Region.wanted, hgd]
  rw [if_pos hw]
  subst hty
  unfold Oper.wp execOp
  simp only [ho, resolve, invoke, builtin, Sem.run_bind, Sem.run_pure, Result.andThen_ok, List.map_toArray, List.map_cons, List.map_nil, hs, hx, hrun]
  exact hK
theorem wpList_pure {P : Program} {w : World} {ops : Array Oper} {rest : List Oper} {a : Act} {Q : Exit → Act → World → Prop} {o : Oper} {v : Value} (hgd : o.guard = none) (h : (execOp a.eval o).run P w = .ok (.value v) w) (hk : wpList P ops Q rest (a.put o.dst v) w) : wpList P ops Q (o :: rest) a w :=
  wpList_plain hgd fun K hK => by
    unfold Oper.wp
    rw [h]
    exact hK _ _ hk
theorem exec_slice1 {P : Program} {a : Act} {w w' : World} {o : Operand} {t : TypeId} {x v : Value} (h : a.eval o = x) (r : (Instr.buildSlice t 1 #[(0, x)]).run P w = .ok v w') {dst ty pos after gd} : (execOp a.eval ⟨dst, .buildSlice t 1 #[(0, o)], ty, pos, after, gd⟩).run P w = .ok (.value v) w' := by
  simp only [execOp, List.map_toArray, List.map_cons, List.map_nil, h, Sem.run_bind, r, Result.andThen_ok, Sem.run_pure]
theorem wpList_value {P : Program} {w w' : World} {ops : Array Oper} {rest : List Oper} {a : Act} {Q : Exit → Act → World → Prop} {o : Oper} {v : Value} (hgd : o.guard = none) (h : (execOp a.eval o).run P w = .ok (.value v) w') (hk : wpList P ops Q rest (a.put o.dst v) w') : wpList P ops Q (o :: rest) a w :=
  wpList_plain hgd fun K hK => by
    unfold Oper.wp
    rw [h]
    exact hK _ _ hk
theorem exec_slice2 {P : Program} {a : Act} {w w' : World} {o o' : Operand} {t : TypeId} {x y v : Value} (h : a.eval o = x) (h' : a.eval o' = y) (r : (Instr.buildSlice t 2 #[(0, x), (1, y)]).run P w = .ok v w') {dst ty pos after gd} : (execOp a.eval ⟨dst, .buildSlice t 2 #[(0, o), (1, o')], ty, pos, after, gd⟩).run P w = .ok (.value v) w' := by
  simp only [execOp, List.map_toArray, List.map_cons, List.map_nil, h, h', Sem.run_bind, r, Result.andThen_ok, Sem.run_pure]
/-- A call whose contract is known, at the list of a plain region's operations. -/
theorem wpList_call_run {P : Program} {w : World} {ops : Array Oper} {rest : List Oper} {a : Act} {Q : Exit → Act → World → Prop} {dst : Option Tmp} {fn : FuncId} {args : Array Operand} {vs : Array Value} {A : Array TypeId} {ty : TypeId} {pos : String} {after : Array Edge} {R : Ending → World → Prop}
    (hF : ∀ args w, (callFunc fn args).run P w = .ok (.enter fn args) w) (hx' : args.toList.map a.eval = vs.toList) (hr : Calls P fn vs w R) (hk : ∀ e w', R e w' → ∃ v, e = .returned v ∧ wpList P ops Q rest (a.put dst v) w') :
    wpList P ops Q (⟨dst, .call { callee := .value (.func fn), args := args, argTypes := A }, ty, pos, after, none⟩ :: rest) a w :=
  wpList_plain rfl fun K hK => by
    have hf : a.eval (.func fn) = .func (.func fn) #[] #[] := rfl
    have hx : args.map a.eval = vs := Array.toList_inj.1 (by simpa using hx')
    have he : (execOp a.eval ⟨dst, .call { callee := .value (.func fn), args := args, argTypes := A }, ty, pos, after, none⟩).run P w = .ok (.enter fn vs) w := by
      simp [execOp, resolve, Deferred.ofValue, hx, hf, invoke, hF]
    unfold Oper.wp
    rw [he, Oper.upon_enter]
    refine hr.mono fun e w' h => ?_
    obtain ⟨v, rfl, hl⟩ := hk e w' h
    exact hK _ _ hl
theorem wpList_callg {P : Program} {w : World} {ops : Array Oper} {rest : List Oper} {a : Act} {Q : Exit → Act → World → Prop} {dst : Option Tmp} {fn : FuncId} {args : Array Operand} {vs : Array Value} {A : Array TypeId} {ty : TypeId} {pos : String} {after : Array Edge} {gd : Option (Nat × Bool)} {R : Ending → World → Prop}
    (hF : ∀ args w, (callFunc fn args).run P w = .ok (.enter fn args) w) (hw : Region.wanted ⟨dst, .call { callee := .value (.func fn), args := args, argTypes := A }, ty, pos, after, gd⟩ (yielded ops a.tmps) = true) (hx' : args.toList.map a.eval = vs.toList) (hr : Calls P fn vs w R) (hk : ∀ e w', R e w' → ∃ v, e = .returned v ∧ wpList P ops Q rest (a.put dst v) w') :
    wpList P ops Q (⟨dst, .call { callee := .value (.func fn), args := args, argTypes := A }, ty, pos, after, gd⟩ :: rest) a w := by
  unfold wpList
  rw [if_pos hw]
  refine .inl ?_
  have hf : a.eval (.func fn) = .func (.func fn) #[] #[] := rfl
  have hx : args.map a.eval = vs := Array.toList_inj.1 (by simpa using hx')
  have he : (execOp a.eval ⟨dst, .call { callee := .value (.func fn), args := args, argTypes := A }, ty, pos, after, gd⟩).run P w = .ok (.enter fn vs) w := by
    simp [execOp, resolve, Deferred.ofValue, hx, hf, invoke, hF]
  unfold Oper.wp
  rw [he, Oper.upon_enter]
  refine hr.mono fun e w' h => ?_
  obtain ⟨v, rfl, hl⟩ := hk e w' h
  exact hl
/-! A region that draws its order, whose own operations read and whose callees lay blocks: over all worlds that hold what was there. -/
section
variable {P : Program} {ops : Array Oper} {C : World → Prop} {Q : Act → Prop} {rest : List Oper} {o : Oper} {a : Act} {v x : Value} {t : TypeId}
theorem wp_region_quietB {id : Nat} {Q : Exit → Act → World → Prop} {w : World} {l : List Oper} (hm : P.follows .mixedOrders = true) (hB : Region.lexB .any l.toArray = true)
    (h : wpQuiet P l.toArray (Below w.heap.size w) (fun a' => ∀ w', Below w.heap.size w w' → Q .normal a' w') l a) : (Code.region id l.toArray true).wp P Q a w :=
  wp_region_quiet (C := Below w.heap.size w) hm hB (Below.refl _ _).drew (by simpa using h)
theorem q_pure (hgd : o.guard = none) (hr : ∀ w, C w → (execOp a.eval o).run P w = .ok (.value v) w) (hk : wpQuiet P ops C Q rest (a.put o.dst v)) : wpQuiet P ops C Q (o :: rest) a :=
  wpQuiet_step fun K hK => by
    have hw : Region.wanted o (yielded ops a.tmps) = true := by simp [Region.wanted, hgd]
    rw [if_pos hw]
    exact ⟨v, fun w hw => by unfold Oper.quietAt; rw [hr w hw]; exact ⟨rfl, rfl⟩, hK _ hk⟩
theorem q_load {dst : Option Tmp} {p : Operand} {ty : TypeId} {pos : String} {after : Array Edge} (hr : ∀ w, C w → (Instr.loadAt t (a.eval p)).run P w = .ok v w) (hk : wpQuiet P ops C Q rest (a.put dst v)) : wpQuiet P ops C Q (⟨dst, .load t p, ty, pos, after, none⟩ :: rest) a :=
  q_pure rfl (fun w hw => by simp only [execOp, Sem.run_bind, hr w hw, Result.andThen_ok, Sem.run_pure]) hk
theorem q_call {dst : Option Tmp} {fn : FuncId} {args : Array Operand} {vs : Array Value} {A : Array TypeId} {ty : TypeId} {pos : String} {after : Array Edge} (hF : ∀ args w, (callFunc fn args).run P w = .ok (.enter fn args) w) (hx' : args.toList.map a.eval = vs.toList)
    (hr : ∀ w, C w → Calls P fn vs w fun e w' => e = .returned v ∧ C w') (hk : wpQuiet P ops C Q rest (a.put dst v)) :
    wpQuiet P ops C Q (⟨dst, .call { callee := .value (.func fn), args := args, argTypes := A }, ty, pos, after, none⟩ :: rest) a :=
  wpQuiet_step fun K hK => by
    rw [if_pos (by rfl)]
    refine ⟨v, fun w hw => ?_, hK _ hk⟩
    have hf : a.eval (.func fn) = .func (.func fn) #[] #[] := rfl
    have hx : args.map a.eval = vs := Array.toList_inj.1 (by simpa using hx')
    have he : (execOp a.eval ⟨dst, .call { callee := .value (.func fn), args := args, argTypes := A }, ty, pos, after, none⟩).run P w = .ok (.enter fn vs) w := by
      simp [execOp, resolve, Deferred.ofValue, hx, hf, invoke, hF]
    unfold Oper.quietAt
    rw [he]
    exact ⟨rfl, hr w hw⟩
end
end Go.Proofs.Ytbfamijlaoopaaa

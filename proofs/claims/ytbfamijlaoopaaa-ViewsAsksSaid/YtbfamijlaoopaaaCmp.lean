/-
  A row of comparisons '&&' over the fields of two structs in boxes: a law for each, whatever the frame. Plain lemmas over any program.
-/
import Derived.Test.YtbfamijlaoopaaaRunArm
namespace Go.Proofs.Ytbfamijlaoopaaa
open Go.RowKit

/-- What is known of a frame: the two boxes. -/
structure CmpPre (n i j : Nat) (x y : Value) (a : Act) : Prop where
  size : a.tmps.size = n
  defers : a.defers = []
  p : a.tmps[i]? = some x
  q : a.tmps[j]? = some y
/-- .. and the answer so far. -/
structure CmpAt (n i j : Nat) (x y : Value) (s : Nat) (c : Bool) (a : Act) : Prop where
  pre : CmpPre n i j x y a
  r : a.tmps[s]? = some (.bool c)
section
variable {n i j s : Nat} {x y : Value} {c : Bool} {a : Act}
theorem act_get {a : Act} {k : Nat} {v : Value} (h : a.tmps[k]? = some v) : a.eval (.tmp k) = v := by
  simp [Act.eval, Array.getD_eq_getD_getElem?, h]
theorem put_get (a : Act) {d : Nat} (v : Value) (h : d < a.tmps.size) : (a.put (some d) v).tmps[d]? = some v := by
  simp [Act.put, h]
theorem put_ne (a : Act) {d k : Nat} (v : Value) (h : d ≠ k) : (a.put (some d) v).tmps[k]? = a.tmps[k]? := by
  simp [Act.put, h]
theorem CmpPre.put (h : CmpPre n i j x y a) {d : Nat} (v : Value) (h1 : d ≠ i) (h2 : d ≠ j) : CmpPre n i j x y (a.put (some d) v) :=
  ⟨by simp [Act.put, h.size], h.defers, by rw [put_ne a v h1, h.p], by rw [put_ne a v h2, h.q]⟩
theorem CmpAt.put (h : CmpAt n i j x y s c a) {d : Nat} (v : Value) (h1 : d ≠ i) (h2 : d ≠ j) (h3 : d ≠ s) : CmpAt n i j x y s c (a.put (some d) v) :=
  ⟨h.pre.put v h1 h2, by rw [put_ne a v h3, h.r]⟩
theorem CmpPre.at_ (h : CmpPre n i j x y a) {d : Nat} (c : Bool) (h1 : d ≠ i) (h2 : d ≠ j) (hd : d < n) : CmpAt n i j x y d c (a.put (some d) (.bool c)) :=
  ⟨h.put _ h1 h2, put_get a _ (by rw [h.size]; exact hd)⟩
end
section
variable {P : Program} {ops : Array Oper} {Q : Exit → Act → World → Prop} {rest : List Oper} {n i j s g : Nat} {x y u1 u2 p1 p2 : Value} {c q : Bool} {a : Act} {w : World} {d f : Nat} {S T : TypeId}
  {t1 t2 t3 t4 t5 t6 : TypeId} {z1 z2 z3 z4 z5 z6 : String} {e1 e2 e3 e4 e5 e6 : Array Edge}
theorem wpList_wanted {o : Oper} {v : Value} (hgd : Region.wanted o (yielded ops a.tmps) = true) (h : (execOp a.eval o).run P w = .ok (.value v) w) (hk : wpList P ops Q rest (a.put o.dst v) w) : wpList P ops Q (o :: rest) a w := by
  unfold wpList
  rw [if_pos hgd]
  refine .inl ?_
  unfold Oper.wp
  rw [h]
  exact hk
theorem res_tmp {fn : Func} {k : Nat} (h : fn.results = #[.tmp k]) {v : Value} (hv : a.tmps[k]? = some v) : (results fn a.tmps).run P w = .ok v w := by
  rw [results_tmp h]
  exact congrArg (fun z => Result.ok z w) (act_get hv)
/-- Two values are compared: so it goes, whatever the operands. -/
def EqRun (P : Program) (T : TypeId) (u1 u2 : Value) (q : Bool) (w : World) : Prop := ∀ X Y : Operand, (do eqGuard .eql T X Y u1 u2; binOp .eql T u1 u2 : Sem Value).run P w = .ok (.bool q) w
/-- The two fields are loaded, and are so. -/
structure Fields2 (P : Program) (S T : TypeId) (f : Nat) (x y u1 u2 : Value) (w : World) : Prop where
  r1 : ∃ p1, (Instr.fieldAt S x f).run P w = .ok p1 w ∧ (Instr.loadAt T p1).run P w = .ok u1 w
  r2 : ∃ p2, (Instr.fieldAt S y f).run P w = .ok p2 w ∧ (Instr.loadAt T p2).run P w = .ok u2 w
theorem exec_field {o : Operand} (h : a.eval o = x) (r : (Instr.fieldAt S x f).run P w = .ok p1 w) {dst ty pos after gd} : (execOp a.eval ⟨dst, .fieldAddr S o f, ty, pos, after, gd⟩).run P w = .ok (.value p1) w := by
  simp only [execOp, h, Sem.run_bind, r, Result.andThen_ok, Sem.run_pure]
theorem exec_load {o : Operand} (h : a.eval o = x) (r : (Instr.loadAt T x).run P w = .ok u1 w) {dst ty pos after gd} : (execOp a.eval ⟨dst, .load T o, ty, pos, after, gd⟩).run P w = .ok (.value u1) w := by
  simp only [execOp, h, Sem.run_bind, r, Result.andThen_ok, Sem.run_pure]
theorem exec_eql {o o' : Operand} (h : a.eval o = u1) (h' : a.eval o' = u2) (r : EqRun P T u1 u2 q w) {V dst ty pos after gd} : (execOp a.eval ⟨dst, .binOp .eql T o o' V, ty, pos, after, gd⟩).run P w = .ok (.value (.bool q)) w := by
  simp only [execOp, h, h']
  rw [Sem.run_bind, r o o']
  simp only [Result.andThen_ok, Sem.run_pure]
theorem exec_move {o : Operand} (h : a.eval o = x) {dst ty pos after gd} : (execOp a.eval ⟨dst, .move o, ty, pos, after, gd⟩).run P w = .ok (.value x) w := by
  simp only [execOp, h, Sem.run_pure]
theorem exec_pick {o o' : Operand} (h : a.eval o = .bool c) (h' : c = true → a.eval o' = .bool q) {dst ty pos after gd} : (execOp a.eval ⟨dst, .pick o o' (.const (.bool false)), ty, pos, after, gd⟩).run P w = .ok (.value (.bool (c && q))) w := by
  simp only [execOp, h]
  cases c
  · simp [asBool, Act.eval]
  · simp [asBool, h' rfl]
theorem exec_call {fn : FuncId} (hF : ∀ args w, (callFunc fn args).run P w = .ok (.enter fn args) w) {o1 o2 : Operand} (h1 : a.eval o1 = u1) (h2 : a.eval o2 = u2) {A : Array TypeId} {dst ty pos after gd} : (execOp a.eval ⟨dst, .call { callee := .value (.func fn), args := #[o1, o2], argTypes := A }, ty, pos, after, gd⟩).run P w = .ok (.enter fn #[u1, u2]) w := by
  have hf : a.eval (.func fn) = .func (.func fn) #[] #[] := rfl
  simp [execOp, resolve, Deferred.ofValue, h1, h2, hf, invoke, hF]
/-- The first comparison. -/
theorem cmp_first (h : CmpPre n i j x y a) (H : Fields2 P S T f x y u1 u2 w) (r5 : EqRun P T u1 u2 q w) (hd : d + 5 < n) (h1 : i < d) (h2 : j < d)
    (hk : ∀ b, CmpAt n i j x y (d + 5) q b → wpList P ops Q rest b w) {V : TypeId} :
    wpList P ops Q (⟨some d, .fieldAddr S (.tmp i) f, t1, z1, e1, none⟩ :: ⟨some (d + 1), .load T (.tmp d), t2, z2, e2, none⟩ :: ⟨some (d + 2), .fieldAddr S (.tmp j) f, t3, z3, e3, none⟩ :: ⟨some (d + 3), .load T (.tmp (d + 2)), t4, z4, e4, none⟩ ::
      ⟨some (d + 4), .binOp .eql T (.tmp (d + 1)) (.tmp (d + 3)) V, t5, z5, e5, none⟩ :: ⟨some (d + 5), .move (.tmp (d + 4)), t6, z6, e6, none⟩ :: rest) a w := by
  obtain ⟨⟨p1, r1, r2⟩, p2, r3, r4⟩ := H
  have k1 := h.put (d := d) p1 (by omega) (by omega)
  have k2 := k1.put (d := d + 1) u1 (by omega) (by omega)
  have k3 := k2.put (d := d + 2) p2 (by omega) (by omega)
  have k4 := k3.put (d := d + 3) u2 (by omega) (by omega)
  have k5 := k4.put (d := d + 4) (.bool q) (by omega) (by omega)
  refine wpList_pure rfl (exec_field (act_get h.p) r1) (wpList_pure rfl (exec_load (act_get (put_get a p1 (by rw [h.size]; omega))) r2) (wpList_pure rfl (exec_field (act_get k2.q) r3)
    (wpList_pure rfl (exec_load (act_get (put_get _ p2 (by rw [k2.size]; omega))) r4) (wpList_pure (v := .bool q) rfl (exec_eql (act_get (v := u1) ?_) (act_get (put_get _ u2 (by rw [k3.size]; omega))) r5) (wpList_pure (v := .bool q) rfl (exec_move (act_get (put_get _ (.bool q) (by rw [k4.size]; omega : d + 4 < _)))) (hk _ (k5.at_ q (by omega) (by omega) hd)))))))
  show ((((a.put (some d) p1).put (some (d + 1)) u1).put (some (d + 2)) p2).put (some (d + 3)) u2).tmps[d + 1]? = some u1
  rw [put_ne _ _ (by omega), put_ne _ _ (by omega)]
  exact put_get _ u1 (by rw [k1.size]; omega)
theorem guard_is (h : CmpAt n i j x y s c a) (hg : (ops[g]?).bind (·.dst) = some s) {o : Oper} (ho : o.guard = some (g, true)) : Region.wanted o (yielded ops a.tmps) = c := by
  simp only [Region.wanted, ho, yielded, hg, Option.bind_some, h.r]
  cases c <;> rfl
/-- One more: 'answer && x.f == y.f'. -/
theorem cmp_more (h : CmpAt n i j x y s c a) (hg : (ops[g]?).bind (·.dst) = some s) (H : Fields2 P S T f x y u1 u2 w) (r5 : EqRun P T u1 u2 q w) (hd : d + 5 < n) (h1 : i < d) (h2 : j < d) (h3 : s < d)
    (hk : ∀ b, CmpAt n i j x y (d + 5) (c && q) b → wpList P ops Q rest b w) {V : TypeId} :
    wpList P ops Q (⟨some d, .fieldAddr S (.tmp i) f, t1, z1, e1, some (g, true)⟩ :: ⟨some (d + 1), .load T (.tmp d), t2, z2, e2, some (g, true)⟩ :: ⟨some (d + 2), .fieldAddr S (.tmp j) f, t3, z3, e3, some (g, true)⟩ :: ⟨some (d + 3), .load T (.tmp (d + 2)), t4, z4, e4, some (g, true)⟩ ::
      ⟨some (d + 4), .binOp .eql T (.tmp (d + 1)) (.tmp (d + 3)) V, t5, z5, e5, some (g, true)⟩ :: ⟨some (d + 5), .pick (.tmp s) (.tmp (d + 4)) (.const (.bool false)), t6, z6, e6, none⟩ :: rest) a w := by
  obtain ⟨⟨p1, r1, r2⟩, p2, r3, r4⟩ := H
  cases c
  · have k1 := h.put (d := d) undef (by omega) (by omega) (by omega)
    have k2 := k1.put (d := d + 1) undef (by omega) (by omega) (by omega)
    have k3 := k2.put (d := d + 2) undef (by omega) (by omega) (by omega)
    have k4 := k3.put (d := d + 3) undef (by omega) (by omega) (by omega)
    have k5 := k4.put (d := d + 4) undef (by omega) (by omega) (by omega)
    exact wpList_skip (guard_is h hg rfl) (wpList_skip (guard_is k1 hg rfl) (wpList_skip (guard_is k2 hg rfl) (wpList_skip (guard_is k3 hg rfl) (wpList_skip (guard_is k4 hg rfl)
      (wpList_pure rfl (exec_pick (q := q) (act_get k5.r) (fun e => by cases e)) (hk _ (k5.pre.at_ _ (by omega) (by omega) hd)))))))
  · have k1 := h.put (d := d) p1 (by omega) (by omega) (by omega)
    have k2 := k1.put (d := d + 1) u1 (by omega) (by omega) (by omega)
    have k3 := k2.put (d := d + 2) p2 (by omega) (by omega) (by omega)
    have k4 := k3.put (d := d + 3) u2 (by omega) (by omega) (by omega)
    have k5 := k4.put (d := d + 4) (.bool q) (by omega) (by omega) (by omega)
    refine wpList_wanted (guard_is h hg rfl) (exec_field (act_get h.pre.p) r1) (wpList_wanted (guard_is k1 hg rfl) (exec_load (act_get (put_get a p1 (by rw [h.pre.size]; omega))) r2) (wpList_wanted (guard_is k2 hg rfl) (exec_field (act_get k2.pre.q) r3)
      (wpList_wanted (guard_is k3 hg rfl) (exec_load (act_get (put_get _ p2 (by rw [k2.pre.size]; omega))) r4) (wpList_wanted (v := .bool q) (guard_is k4 hg rfl) (exec_eql (act_get (v := u1) ?_) (act_get (put_get _ u2 (by rw [k3.pre.size]; omega))) r5)
      (wpList_pure rfl (exec_pick (q := q) (act_get k5.r) fun _ => act_get (put_get _ (.bool q) (by rw [k4.pre.size]; omega : d + 4 < _))) (hk _ (k5.pre.at_ _ (by omega) (by omega) hd)))))))
    show ((((a.put (some d) p1).put (some (d + 1)) u1).put (some (d + 2)) p2).put (some (d + 3)) u2).tmps[d + 1]? = some u1
    rw [put_ne _ _ (by omega), put_ne _ _ (by omega)]
    exact put_get _ u1 (by rw [k1.pre.size]; omega)
/-- The answer is moved on. -/
theorem cmp_move (h : CmpAt n i j x y s c a) (hd : d < n) (h1 : i ≠ d) (h2 : j ≠ d) (hk : ∀ b, CmpAt n i j x y d c b → wpList P ops Q rest b w) : wpList P ops Q (⟨some d, .move (.tmp s), t1, z1, e1, none⟩ :: rest) a w :=
  wpList_pure rfl (exec_move (act_get h.r)) (hk _ (h.pre.at_ _ (by omega) (by omega) hd))
theorem cmp_assign (h : CmpAt n i j x y s c a) (hd : d < n) (h1 : i ≠ d) (h2 : j ≠ d) (hk : ∀ b, CmpAt n i j x y d c b → wpList P ops Q rest b w) : wpList P ops Q (⟨some d, .assign (.tmp s), t1, z1, e1, none⟩ :: rest) a w :=
  wpList_pure rfl (by simp only [execOp, act_get h.r, Sem.run_pure]) (hk _ (h.pre.at_ _ (by omega) (by omega) hd))
/-- 'answer && fn(x.f, y.f)', fn a function that tells a truth. -/
theorem cmp_call {fn : FuncId} (hF : ∀ args w, (callFunc fn args).run P w = .ok (.enter fn args) w) (h : CmpAt n i j x y s c a) (hg : (ops[g]?).bind (·.dst) = some s) (H : Fields2 P S T f x y u1 u2 w) {R : World → Prop} (HC : c = true → Calls P fn #[u1, u2] w fun e w' => e = .returned (.bool q) ∧ R w') (hR : c = false → R w)
    (hd : d + 5 < n) (h1 : i < d) (h2 : j < d) (h3 : s < d) (hk : ∀ b w', R w' → CmpAt n i j x y (d + 5) (c && q) b → wpList P ops Q rest b w') :
    wpList P ops Q (⟨some d, .fieldAddr S (.tmp i) f, t1, z1, e1, some (g, true)⟩ :: ⟨some (d + 1), .load T (.tmp d), t2, z2, e2, some (g, true)⟩ :: ⟨some (d + 2), .fieldAddr S (.tmp j) f, t3, z3, e3, some (g, true)⟩ :: ⟨some (d + 3), .load T (.tmp (d + 2)), t4, z4, e4, some (g, true)⟩ ::
      ⟨some (d + 4), .call { callee := .value (.func fn), args := #[.tmp (d + 1), .tmp (d + 3)], argTypes := #[T, T] }, t5, z5, e5, some (g, true)⟩ :: ⟨some (d + 5), .pick (.tmp s) (.tmp (d + 4)) (.const (.bool false)), t6, z6, e6, none⟩ :: rest) a w := by
  obtain ⟨⟨p1, r1, r2⟩, p2, r3, r4⟩ := H
  cases c
  · have k1 := h.put (d := d) undef (by omega) (by omega) (by omega)
    have k2 := k1.put (d := d + 1) undef (by omega) (by omega) (by omega)
    have k3 := k2.put (d := d + 2) undef (by omega) (by omega) (by omega)
    have k4 := k3.put (d := d + 3) undef (by omega) (by omega) (by omega)
    have k5 := k4.put (d := d + 4) undef (by omega) (by omega) (by omega)
    exact wpList_skip (guard_is h hg rfl) (wpList_skip (guard_is k1 hg rfl) (wpList_skip (guard_is k2 hg rfl) (wpList_skip (guard_is k3 hg rfl) (wpList_skip (guard_is k4 hg rfl)
      (wpList_pure rfl (exec_pick (q := q) (act_get k5.r) (fun e => by cases e)) (hk _ _ (hR rfl) (k5.pre.at_ _ (by omega) (by omega) hd)))))))
  · have k1 := h.put (d := d) p1 (by omega) (by omega) (by omega)
    have k2 := k1.put (d := d + 1) u1 (by omega) (by omega) (by omega)
    have k3 := k2.put (d := d + 2) p2 (by omega) (by omega) (by omega)
    have k4 := k3.put (d := d + 3) u2 (by omega) (by omega) (by omega)
    have k5 := k4.put (d := d + 4) (.bool q) (by omega) (by omega) (by omega)
    have g1 : ((((a.put (some d) p1).put (some (d + 1)) u1).put (some (d + 2)) p2).put (some (d + 3)) u2).eval (.tmp (d + 1)) = u1 := by
      refine act_get ?_
      rw [put_ne _ _ (by omega), put_ne _ _ (by omega)]
      exact put_get _ u1 (by rw [k1.pre.size]; omega)
    have g2 : ((((a.put (some d) p1).put (some (d + 1)) u1).put (some (d + 2)) p2).put (some (d + 3)) u2).eval (.tmp (d + 3)) = u2 := act_get (put_get _ u2 (by rw [k3.pre.size]; omega))
    refine wpList_wanted (guard_is h hg rfl) (exec_field (act_get h.pre.p) r1) (wpList_wanted (guard_is k1 hg rfl) (exec_load (act_get (put_get a p1 (by rw [h.pre.size]; omega))) r2) (wpList_wanted (guard_is k2 hg rfl) (exec_field (act_get k2.pre.q) r3)
      (wpList_wanted (guard_is k3 hg rfl) (exec_load (act_get (put_get _ p2 (by rw [k2.pre.size]; omega))) r4) ?_)))
    unfold wpList
    rw [if_pos (guard_is k4 hg rfl)]
    refine .inl ?_
    unfold Oper.wp
    rw [exec_call hF g1 g2, Oper.upon_enter]
    refine (HC rfl).mono ?_
    rintro e w' ⟨rfl, hR'⟩
    exact wpList_pure rfl (exec_pick (q := q) (act_get k5.r) fun _ => act_get (put_get _ (.bool q) (by rw [k4.pre.size]; omega : d + 4 < _))) (hk _ _ hR' (k5.pre.at_ _ (by omega) (by omega) hd))
end
end Go.Proofs.Ytbfamijlaoopaaa

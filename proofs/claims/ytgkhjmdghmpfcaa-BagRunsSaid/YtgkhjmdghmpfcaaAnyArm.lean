/-
  A region that draws its order, an operation at a time: one that yields in whatever world; the only one that may come up now, whose run, or whose callee's contract, is known. Plain lemmas over any program.
-/
import Derived.Test.YtgkhjmdghmpfcaaRunArm
import Derived.Orders
namespace Go.Proofs.Ytgkhjmdghmpfcaa
open Go.RowKit

section
variable {P : Program} {md : Region.Mode} {ops : Array Oper} {Q : Exit → Act → World → Prop} {i fuel : Nat} {listed : Array Bool} {T : Array Value} {D : List Deferred} {d : Nat} {w w' : World} {v x : Value} {t : TypeId} {oi : Oper}
theorem any_pure (hi : ops[i]? = some oi) (hd : oi.dst = some d) (hgd : oi.guard = none) (hs : Region.noSelect ops = true) (hf : Region.free md ops listed i = true) (hr : (Region.ready md ops listed).contains i = true)
    (hQ : ∀ c a w, Q (.panic c) (a.put oi.dst v) w → Q (.panic c) a w) (hx : ∀ w, (execOp (Act.eval ⟨T, D⟩) oi).run P w = .ok (.value v) w) (h : wpAny P md ops Q fuel (listed.setIfInBounds i true) ⟨T.setIfInBounds d v, D⟩ w) : wpAny P md ops Q (fuel + 1) listed ⟨T, D⟩ w :=
  wpAny_take hi hs hf hr hQ (.inl ⟨by simp [Region.wanted, hgd], hx⟩) (by rw [hd]; exact h)
theorem any_value (hi : ops[i]? = some oi) (hd : oi.dst = some d) (hgd : oi.guard = none) (hr : Region.ready md ops listed = [i]) (hx : (execOp (Act.eval ⟨T, D⟩) oi).run P w = .ok (.value v) w') (h : wpAny P md ops Q fuel (listed.setIfInBounds i true) ⟨T.setIfInBounds d v, D⟩ w') : wpAny P md ops Q (fuel + 1) listed ⟨T, D⟩ w :=
  wpAny_all hr (by simp) fun j hj => by
    rw [List.mem_singleton.1 hj]
    unfold wpOp
    simp only [hi]
    rw [if_pos (by simp [Region.wanted, hgd])]
    refine .inl ?_
    unfold Oper.wp
    rw [hx]
    show wpAny P md ops Q fuel _ (Act.put ⟨T, D⟩ oi.dst v) w'
    rw [hd]
    exact h
theorem exec_call_any {a : Act} {fn : FuncId} {args : Array Operand} {vs : Array Value} {dst : Option Tmp} {A : Array TypeId} {ty : TypeId} {pos : String} {after : Array Edge} {gd : Option (Nat × Bool)} (hF : ∀ args w, (callFunc fn args).run P w = .ok (.enter fn args) w) (hx' : args.toList.map a.eval = vs.toList) :
    (execOp a.eval ⟨dst, .call { callee := .value (.func fn), args := args, argTypes := A }, ty, pos, after, gd⟩).run P w = .ok (.enter fn vs) w := by
  have hf : a.eval (.func fn) = .func (.func fn) #[] #[] := rfl
  have hx : args.map a.eval = vs := Array.toList_inj.1 (by simpa using hx')
  simp [execOp, resolve, Deferred.ofValue, hx, hf, invoke, hF]
theorem any_call {fn : FuncId} {args : Array Operand} {vs : Array Value} {A : Array TypeId} {ty : TypeId} {pos : String} {after : Array Edge} {R : Ending → World → Prop} (hF : ∀ args w, (callFunc fn args).run P w = .ok (.enter fn args) w)
    (hi : ops[i]? = some ⟨some d, .call { callee := .value (.func fn), args := args, argTypes := A }, ty, pos, after, none⟩) (hr : Region.ready md ops listed = [i]) (hx' : args.toList.map (Act.eval ⟨T, D⟩) = vs.toList) (hc : Calls P fn vs w R)
    (h : ∀ e w', R e w' → ∃ v, e = .returned v ∧ wpAny P md ops Q fuel (listed.setIfInBounds i true) ⟨T.setIfInBounds d v, D⟩ w') : wpAny P md ops Q (fuel + 1) listed ⟨T, D⟩ w :=
  wpAny_all hr (by simp) fun j hj => by
    rw [List.mem_singleton.1 hj]
    unfold wpOp
    simp only [hi]
    rw [if_pos (by rfl)]
    refine .inl ?_
    unfold Oper.wp
    rw [exec_call_any hF hx', Oper.upon_enter]
    refine hc.mono fun e w' hR => ?_
    obtain ⟨v, rfl, hl⟩ := h e w' hR
    exact hl
end
end Go.Proofs.Ytgkhjmdghmpfcaa

/-
  A region that draws its order and whose loads hold under a word S on the world, an operation at a time: one that yields under S; the only one that may come up now, a call whose contract is known. Plain lemmas over any program.
-/
import Derived.Test.YtgkhjmdghmpfcaaAnyArm
import Derived.OrdersHeld
namespace Go.Proofs.Ytgkhjmdghmpfcaa
open Go.RowKit

section
variable {P : Program} {md : Region.Mode} {ops : Array Oper} {Q : Exit → Act → World → Prop} {S : World → Prop} {i fuel : Nat} {listed : Array Bool} {T : Array Value} {D : List Deferred} {d : Nat} {w w' : World} {v x : Value} {t : TypeId} {oi : Oper}
theorem h_take (hi : ops[i]? = some oi) (hd : oi.dst = some d) (hw : Region.wanted oi (yielded ops T) = true) (hs : Region.noSelect ops = true) (hf : Region.free md ops listed i = true) (hr : (Region.ready md ops listed).contains i = true)
    (hQ : ∀ c a w, Q (.panic c) (a.put oi.dst v) w → Q (.panic c) a w) (hS : S w) (hx : ∀ w, S w → (execOp (Act.eval ⟨T, D⟩) oi).run P w = .ok (.value v) w) (h : wpAnyH P md ops Q S fuel (listed.setIfInBounds i true) ⟨T.setIfInBounds d v, D⟩ w) : wpAnyH P md ops Q S (fuel + 1) listed ⟨T, D⟩ w :=
  wpAnyH_take hi hs hf hr hQ (.inl ⟨hw, hx⟩) hS (by rw [hd]; exact h)
theorem h_call {fn : FuncId} {args : Array Operand} {vs : Array Value} {A : Array TypeId} {ty : TypeId} {pos : String} {after : Array Edge} {gd : Option (Nat × Bool)} {R : Ending → World → Prop} (hF : ∀ args w, (callFunc fn args).run P w = .ok (.enter fn args) w)
    (hi : ops[i]? = some ⟨some d, .call { callee := .value (.func fn), args := args, argTypes := A }, ty, pos, after, gd⟩) (hw : Region.wanted ⟨some d, .call { callee := .value (.func fn), args := args, argTypes := A }, ty, pos, after, gd⟩ (yielded ops T) = true) (hr : Region.ready md ops listed = [i])
    (hx' : args.toList.map (Act.eval ⟨T, D⟩) = vs.toList) (hc : Calls P fn vs w R)
    (h : ∀ e w', R e w' → ∃ v, e = .returned v ∧ S w' ∧ wpAnyH P md ops Q S fuel (listed.setIfInBounds i true) ⟨T.setIfInBounds d v, D⟩ w') : wpAnyH P md ops Q S (fuel + 1) listed ⟨T, D⟩ w :=
  wpAnyH_all hr (by simp) fun j hj => by
    rw [List.mem_singleton.1 hj]
    unfold wpOp
    simp only [hi]
    rw [if_pos hw]
    refine .inl ?_
    unfold Oper.wp
    rw [exec_call_any hF hx', Oper.upon_enter]
    refine hc.mono fun e w' hR => ?_
    obtain ⟨v, rfl, hS, hl⟩ := h e w' hR
    exact ⟨hS, hl⟩
end
end Go.Proofs.Ytgkhjmdghmpfcaa

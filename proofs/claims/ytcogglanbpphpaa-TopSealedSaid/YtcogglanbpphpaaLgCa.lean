/-
  Package redo: what may give up is done (caught), where it does not give up: contracts, one for each function that is handed over.
-/
import Derived.Test.YtcogglanbpphpaaLgLr
import Derived.Defers
import Derived.Recover
import Derived.WalkLawsBesides
import Derived.Laws.Rows
import Derived.Laws.ResultCell
namespace Go.Proofs.Ytcogglanbpphpaa
open Go.RowKit

set_option maxHeartbeats 1000000 in
theorem caught_idle (q : Nat) (w : World) :
    CallsD Try.prog 33 #[.pointer (some ⟨q, 0, none⟩)] .returning w fun e u' w' => e = .returned (.tuple #[]) ∧ u' = .returning ∧ w' = w := by
  refine callsD_of_wpS Try.func33 rfl fun c₀ cs hu => ?_
  apply wpS_seq
  apply wpS_region
  simp [wpOpsS, go_sem, recoverD, hu, Try.ntmps33, Exit.thenS]
  refine wpS_of_wp ?_
  show Code.wp _ _ _ { tmps := #[.pointer (some ⟨q, 0, none⟩), .nilIface, .nilIface, undef, undef, undef, undef], defers := [] } w
  go_wp2
  cases c₀
  simp_all [bodyPostS, results, Try.results33]
theorem lg_results_errno {fn : Func} {p : Tmp} {t : TypeId} (h : fn.results = #[.cell p 25]) (tmps : Array Value) (w : World) (g : Nat) (v : Value)
    (hp : tmps.getD p undef = .pointer (some ⟨g, 0, none⟩)) (hg : Whole w g t [v]) : (results fn tmps).run Try.prog w = .ok v w := by
  have hp' : tmps[p]?.getD undef = .pointer (some ⟨g, 0, none⟩) := by simpa using hp
  have c0 : w.cell? ⟨g, 0, none⟩ = some v := hg.cell 0
  have i1 := Try.isAgg25
  simp only [results, h]
  simp [hp', asAddr, go_sem, i1, c0]
/-- What a call that is caught, and does not give up, leaves. -/
def CaughtPost (w : World) (Q : World → Prop) (e : Ending) (w' : World) : Prop := e = .returned (.int .i64 0) ∧ ∃ w1, Q w1 ∧ w' = w1.setCell ⟨w.heap.size, 0, none⟩ (.int .i64 0)
set_option maxRecDepth 20000 in
set_option maxHeartbeats 1000000 in
theorem caught_any {f : FuncId} {cap : Array Value} {w : World} {Q : World → Prop} (he : ∀ (args : Array Value) (w : World), (callFunc f args).run Try.prog w = .ok (.enter f args) w)
    (hc : Calls Try.prog f cap (w.alloc (.cells #[.int .i64 0] 25)) (fun e w' => e = .returned (.tuple #[]) ∧ Q w'))
    (hQ : ∀ w', Q w' → Whole w' w.heap.size 25 [.int .i64 0]) :
    Calls Try.prog 13 #[.func (.func f) #[] cap] w (CaughtPost w Q) := by
  have hmf : ∀ (fn : Fn) (first cap : Array Value) (w : World), (Instr.makeFunc fn first cap).run Try.prog w = .ok (.func fn first cap) w := fun _ _ _ _ => rfl
  have HC := Lib.hid hc
  have HQ := Lib.hid hQ
  clear hc hQ
  go_enter_defers Try.func13, Try.ntmps13
  go_wp2_with fail
  refine HC.out.mono ?_
  rintro e w1 ⟨rfl, q⟩
  have hK := HQ.out w1 q
  have c0 := hK.cell 0
  have f0 := hK.free 0
  simp only [List.getElem?_cons_zero] at c0
  have hK2 := hK.set 0 (.int .i64 0)
  have HF := Lib.hid (And.intro hK2 q)
  clear q hK hK2
  dsimp only
  go_wp2
  refine leaves_cons (f := 33) (args := #[.pointer (some ⟨w.heap.size, 0, none⟩)]) (by simp) (by simp [go_sem]) ?_
  refine (caught_idle _ _).mono ?_
  rintro e u' w'' ⟨rfl, rfl, rfl⟩
  refine ⟨_, lg_results_errno rfl _ _ _ _ rfl HF.out.1, rfl, w1, HF.out.2, rfl⟩
end Go.Proofs.Ytcogglanbpphpaa

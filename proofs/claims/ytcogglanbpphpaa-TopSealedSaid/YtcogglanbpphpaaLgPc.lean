/-
  Package redo: whether a content may be a record's piece (isPiece), where it is one: a contract.
-/
import Derived.Test.YtcogglanbpphpaaLgSm
namespace Go.Proofs.Ytcogglanbpphpaa
open Go.RowKit

/-- A piece of a record, in a log of that age. -/
structure IsPc (c : Ct) (age : Nat) : Prop where
  kd : c.kd = 2
  a1 : 1 ≤ c.ag
  a2 : c.ag ≤ age
  a3 : age ≤ 2147483647
  nu : 1 ≤ c.nu
  n2 : c.nu ≤ 2147483647
  sz : c.sz ≤ 1024
  pl : c.pl < np c.sz
  tx : (c.tx.length : Int) = min 36 ((c.sz : Int) - (c.pl : Int) * 36)
set_option maxRecDepth 20000 in
set_option maxHeartbeats 1000000 in
theorem isPiece_yes {c : Ct} {age : Nat} (h : IsPc c age) (w : World) : Calls Try.prog 37 #[c.val, .int .i64 (age : Int)] w fun e w' => e = .returned (.bool true) ∧ Below w.heap.size w w' := by
  obtain ⟨hk, h1, h2, h3, h4, h5, h6, h7, h8⟩ := h
  have K := Whole.new w c.cs.toArray 57
  have HB : Below w.heap.size w (w.alloc (.cells c.cs.toArray 57)) := (Below.refl _ _).alloc (Nat.le_refl _) _
  have hsz : ((ByteArray.mk c.tx.toArray).size : Int) = min 36 ((c.sz : Int) - (c.pl : Int) * 36) := by
    rw [← h8]
    show ((c.tx.toArray.size : Nat) : Int) = _
    simp
  have hkp : ∀ nq, Calls Try.prog 19 #[.int .i64 (c.sz : Int)] ((w.alloc (.cells c.cs.toArray 57)).drewN nq) fun e w' => e = .returned (.int .i64 ((np c.sz : Nat) : Int)) ∧ w' = (w.alloc (.cells c.cs.toArray 57)).drewN nq := fun nq => pieces_any c.sz (by omega) _
  have hnp : np c.sz ≤ 29 := by unfold np; omega
  have hp2 : c.pl ≤ 29 := by omega
  have d1 : decide ((1 : Int) ≤ (c.ag : Int)) = true := by simp; omega
  have d2 : decide ((c.ag : Int) ≤ (age : Int)) = true := by simp; omega
  have d3 : decide ((1 : Int) ≤ (c.nu : Int)) = true := by simp; omega
  have d4 : decide ((c.sz : Int) ≤ 1024) = true := by simp; omega
  have d5 : decide ((c.pl : Int) < ((np c.sz : Nat) : Int)) = true := by simp; omega
  have e2 : decide (c.ag ≤ age) = true := decide_eq_true h2
  have e5 : decide (c.pl < np c.sz) = true := decide_eq_true h7
  have w1 : IntKind.i64.wrap ((c.pl : Int) * 36) = (c.pl : Int) * 36 := IntWalk.i64_in _ (by omega)
  have w2 : IntKind.i64.wrap ((c.sz : Int) - (c.pl : Int) * 36) = (c.sz : Int) - (c.pl : Int) * 36 := IntWalk.i64_in _ (by omega)
  unfold Ct.val Ct.cs sv at *
  rw [hk] at *
  simp only [Int.cast_ofNat_Int] at *
  generalize ByteArray.mk c.tx.toArray = s at *
  generalize c.sz = sz at *
  generalize c.pl = pl at *
  generalize c.ag = ag at *
  generalize c.nu = nu at *
  clear h1 h2 h4 h8
  go_enter Try.func37, Try.ntmps37
  go_wp2_with fail
  have k0 := K.cell 0
  have k1 := K.cell 1
  have k2 := K.cell 2
  have k3 := K.cell 3
  have k4 := K.cell 4
  have k5 := K.cell 5
  simp only [List.getElem?_cons_succ, List.getElem?_cons_zero] at k0 k1 k2 k3 k4 k5
  clear K
  generalize w.alloc (.cells #[.int .i64 2, .int .i64 (ag : Int), .int .i64 (nu : Int), .int .i64 (pl : Int), .int .i64 (sz : Int), .string s] 57) = W at *
  go_quiet ((go_at_call 19; exact Calls.quiet_of_same (hkp _)))
  have e9 : (min 36 ((sz : Int) - (pl : Int) * 36) == if (sz : Int) - (pl : Int) * 36 < 36 then (sz : Int) - (pl : Int) * 36 else 36) = true := by
    rw [beq_iff_eq]
    split <;> omega
  rw [e9]
  clear e9 hkp k0 k1 k2 k3 k4 k5
  go_wp2
  all_goals (
    go_ret
    exact ⟨rfl, below_drewN HB _⟩)
end Go.Proofs.Ytcogglanbpphpaa

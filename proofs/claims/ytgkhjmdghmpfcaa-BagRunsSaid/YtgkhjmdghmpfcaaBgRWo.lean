/-
  The document's Without: contract.
-/
import Derived.Test.YtgkhjmdghmpfcaaBgRPut
namespace Go.Proofs.Ytgkhjmdghmpfcaa
open Go.RowKit
def RWPost (w : World) (l : List (Ms × Value)) (e : Ending) (w' : World) : Prop :=
  ∃ A N c, e = .returned (.slice A N c) ∧ RdM w' A N l ∧ N ≤ c ∧ (∀ b off, A = some ⟨b, off, none⟩ → w.heap.size ≤ b) ∧ Below w.heap.size w w'
/-- l[:k] -/
theorem RdM.front {w : World} {l : List (Ms × Value)} {A : Option Addr} {n c k : Nat} (hl : RdM w A n l) (hc : n ≤ c) (hk : k < n) : RdM w A k (l.take k) := by
  have r := hl.cut (i := 0) (j := k) (c := c) (by omega) (by omega) hc
  rw [Nat.sub_zero, List.drop_zero] at r
  obtain ⟨b, off, _, e, _⟩ := hl.get hk
  have hA : (if c = 0 then A else A.map (·.add (0 * 23))) = A := by
    split
    · rfl
    · subst e
      rfl
  rw [hA] at r
  exact r
set_option maxRecDepth 20000 in
set_option maxHeartbeats 2000000 in
theorem rwo_any {w : World} {l : List (Ms × Value)} {A : Option Addr} {n c k : Nat} (hl : RdM w A n l) (hln : n ≤ 100000) (hc : n ≤ c) (hk : k < n) :
    Calls Try.prog 25 #[.slice A n c, .int .i64 (k : Int)] w (RWPost w (l.eraseIdx k)) := by
  obtain ⟨d, hd⟩ : ∃ d, d = k + 1 := ⟨_, rfl⟩
  have hd1 : (k : Int) + 1 ≤ (n : Int) := by omega
  have hd0 : (0 : Int) ≤ (k : Int) + 1 := by omega
  obtain ⟨A2, cut2, hr2, -⟩ := run_cutM A (n := n) (c := c) (k := d) (by omega) hc
  rw [show (d : Int) = (k : Int) + 1 by omega] at cut2
  obtain ⟨n', hn'⟩ : ∃ n', n' = n - d := ⟨_, rfl⟩
  obtain ⟨c', hc'⟩ : ∃ c', c' = c - d := ⟨_, rfl⟩
  rw [← hn', ← hc'] at cut2
  rw [← hn'] at hr2
  have hkn : (k : Int) < (n : Int) := by omega
  have hcn : (n : Int) ≤ (c : Int) := by omega
  have hL := hl.len
  have r1 := hl.front hc hk
  obtain ⟨v1, W1, ap1, hrow1, hg1, -⟩ := run_appC (P := Try.prog) (ty := 29) (t := 29) Try.underlying29 Try.infoMs rfl (by decide) (by decide) (World.ownsRow_nil w w.heap.size 47 23) c r1.rd r1.one (by omega) (Nat.le_refl _)
  have hB1 : Below w.heap.size w W1 := below_nil hg1
  have r2 := hr2 W1 l (hl.below hB1)
  obtain ⟨v2, W2, ap2, hrow2, hg2, -⟩ := run_appC (P := Try.prog) (ty := 29) (t := 29) Try.underlying29 Try.infoMs rfl (by decide) (by decide) hrow1 c' r2.rd r2.one (by omega) hB1.size
  have hB2 : Below w.heap.size w W2 := hB1.grown hg2 hB1.size fun k hk => (World.ownsRow.lt hrow1 k hk).1
  have hlen : 0 + k + n' = n - 1 := by omega
  rw [hlen] at hrow2
  have hlist : [] ++ mcl (l.take k) ++ mcl (l.drop d) = mcl (l.eraseIdx k) := by rw [hd, List.nil_append, ← mcl_append, List.eraseIdx_eq_take_drop_succ]
  rw [hlist] at hrow2
  obtain ⟨G, cg, hacc, hcg, hfz, hrd, hbk⟩ := row_rd hrow2
  have hF : RWPost w (l.eraseIdx k) (.returned (.slice G (n - 1) cg)) W2 := ⟨G, n - 1, cg, rfl, ⟨by rw [List.length_eraseIdx, if_pos (by omega), hL], hrd, fun q hq => (hl.ents q (List.mem_of_mem_eraseIdx hq)).below hB2⟩, hcg, fun b off e => (World.ownsRow.lt hrow2 b (hbk b off e)).1, hB2⟩
  have HF := Lib.hid hF
  clear hn' hc' hd hF hl hr2 hL r1 hrow1 hg1 hB1 r2 hrow2 hg2 hB2 hlen hlist hcg hfz hrd hbk
  subst hacc
  go_enter Try.func25, Try.ntmps25
  go_wp2_with (first | (at_builtin; refine wpList_append_run ap1 rfl _ _ rfl rfl rfl rfl ?_) | (at_builtin; refine wpList_append_run ap2 rfl _ _ rfl rfl rfl rfl ?_))
  go_ret
  exact HF.out
end Go.Proofs.Ytgkhjmdghmpfcaa

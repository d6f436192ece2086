/-
  The lent bytes are a row of the call's own, and may be written over: contract of tumuluskeep.Lent, and the loop that writes over them.
-/
import Derived.Test.YtoookmkfaihbpaaKeep
import Derived.Test.YtoookmkfaihbpaaVals
namespace Go.Proofs.Ytoookmkfaihbpaa
open Go.RowKit

def LentOwn (w : World) (b : List UInt8) (e : Ending) (w' : World) : Prop :=
  ∃ g c, e = .returned (.slice (some ⟨g, 0, none⟩) b.length c) ∧ b.length + 6 ≤ c ∧ c ≤ maxLen ∧ w.heap.size ≤ g ∧ Own 5 w' w.heap.size (.slice (some ⟨g, 0, none⟩) (b.length + 6) c) (b ++ pad 6) ∧ Below w.heap.size w w'

set_option maxRecDepth 20000 in
set_option maxHeartbeats 1000000 in
theorem lent_own (A : Option Addr) (n c : Nat) (b : List UInt8) (w : World) (hb : Rd w A n b) (hn : n ≤ 70368744177664) :
    Calls Try.prog 22 #[.slice A n c] w (LentOwn w b) := by
  obtain ⟨v1, w1, hap, hown1, hg1, _⟩ := run_app (P := Try.prog) w.heap.size 23 23 5 Try.underlying23 Try.infoU8 (.slice none 0 0) [] Own.nil A n c b hb (by simp; omega) (Nat.le_refl _)
  rw [List.nil_append] at hown1
  have hb1 := below_app (Below.refl w.heap.size w) (Own.nil (U := 5)) hg1 (Nat.le_refl _)
  have hl := hb.len
  go_enter Try.func22, Try.ntmps22
  go_wp2_with (at_builtin; refine wpList_append_run hap rfl _ _ rfl rfl rfl rfl ?_)
  clear hap hg1
  go_loopw [3, 4] (LentRel b w) (fun _ i _ => 6 - (intOf i).toNat)
  case atStart => exact ⟨0, by omega, rfl, by simpa [pad] using hown1, hb1⟩
  case round =>
    clear hown1 hb1
    obtain ⟨k, hk, rfl, hown, hbw⟩ := hrel
    by_cases hlt : k < 6
    · have hsz := hbw.size
      have hl2 : (b ++ pad k).length ≤ n + 6 := by rw [List.length_append, hl, pad_length]; omega
      obtain ⟨v2, w2, hap, hown2, hb2⟩ := run_app_one (P := Try.prog) w.heap.size 23 23 5 Try.underlying23 Try.infoU8 _ _ hown (.int .u8 157) 157 rfl (by omega) hsz
      rw [List.append_assoc, ← pad_succ] at hown2
      clear hl2 hl
      go_wp2_with (at_builtin; refine wpList_append_run hap rfl _ _ rfl rfl rfl rfl ?_)
      go_roundw
      case rel => exact ⟨k + 1, by omega, by go_num, hown2, hbw.trans hb2⟩
      case measure => simp [intOf]; omega
    · obtain rfl : k = 6 := by omega
      have hl2 : (b ++ pad 6).length = n + 6 := by rw [List.length_append, hl, pad_length]
      obtain ⟨g, c', hv, hg, hlc, hcm⟩ := hown.form (by omega)
      rw [hl2] at hv hlc
      subst hv
      unfold maxLen at hcm
      have Hown := Lib.hid hown
      clear hown hl2
      go_wp2
      go_ret
      exact ⟨g, c', by rw [hl]; rfl, by rw [hl]; exact hlc, by unfold maxLen; exact hcm, hg, by rw [hl]; exact Hown.out, hbw⟩
/-- The lent bytes alone. -/
theorem lent_rd {w : World} {base g n c : Nat} {b : List UInt8} (hl : b.length = n) (o : Own 5 w base (.slice (some ⟨g, 0, none⟩) (n + 6) c) (b ++ pad 6)) : Rd w (some ⟨g, 0, none⟩) (n + 6) (b ++ pad 6) ∧ Rd w (some ⟨g, 0, none⟩) n b := by
  obtain ⟨A, c', hv, _, _, r⟩ := o.shapeN (n := n + 6) (by rw [List.length_append, hl, pad_length])
  injection hv with e1 e2 e3
  rw [← e1] at r
  refine ⟨r, ?_⟩
  have h := r.take (k := n) (by omega)
  rw [List.take_append_of_le_length (by omega), List.take_of_length_le (by omega)] at h
  exact h
/-- So far written over. -/
def OverRel (base g n m c : Nat) (w : World) (i : Value) (wr : World) : Prop := ∃ k : Nat, k ≤ n ∧ i = .int .i64 (k : Int) ∧ (∃ l, l.length = m ∧ Own 5 wr base (.slice (some ⟨g, 0, none⟩) m c) l) ∧ w.grownBy wr (some g)
theorem over_step {base g m c k : Nat} {w wr : World} {l : List UInt8} (hk : k < m) (hl : l.length = m) (o : Own 5 wr base (.slice (some ⟨g, 0, none⟩) m c) l) (hg : w.grownBy wr (some g)) (x : UInt8) :
    (∃ u, wr.cell? ⟨g, k, none⟩ = some u) ∧ wr.frozen? ⟨g, k, none⟩ = false ∧ (∃ l2, l2.length = m ∧ Own 5 (wr.setCell ⟨g, k, none⟩ (bv x)) base (.slice (some ⟨g, 0, none⟩) m c) l2) ∧ w.grownBy (wr.setCell ⟨g, k, none⟩ (bv x)) (some g) := by
  obtain ⟨u, _, hc⟩ := o.cell hl hk
  exact ⟨⟨_, hc⟩, o.free hl k, ⟨_, by rw [List.length_set]; exact hl, o.set hl k x⟩, grown_trans hg (grown_set _ _ _ _)⟩
end Go.Proofs.Ytoookmkfaihbpaa

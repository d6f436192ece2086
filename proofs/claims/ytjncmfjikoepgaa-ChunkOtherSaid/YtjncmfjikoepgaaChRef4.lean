/-
  Package tumulusref10: Join: contract.
-/
import Derived.Test.YtjncmfjikoepgaaChRef3
namespace Go.Proofs.Ytjncmfjikoepgaa
open Go.RowKit

set_option maxRecDepth 20000 in
set_option maxHeartbeats 2000000 in
theorem refJoin_any (n : Int) (A A2 : Option Addr) (k c k2 c2 : Nat) (z : List Int) (ps : List ByteArray) (w : World) (hr : RdV w A k (ivs z)) (hk : k ≤ 1000000000) (hp : RdV w A2 k2 (tvs ps)) (hk2 : k2 ≤ 1000000000) :
    Calls Try.prog 20 #[.int .i64 n, .slice A k c, .slice A2 k2 c2] w (JoinP w n z ps) := by
  have hl : z.length = k := by have := hr.len; rwa [ivs_length] at this
  have hl2 : ps.length = k2 := by have := hp.len; rwa [tvs_length] at this
  have HC := refRight_any n A k c z w hr hk
  by_cases hq : RightM n z
  case neg =>
    rw [decide_eq_false hq] at HC
    have HQ := Lib.hid hq
    clear hq hr hp hl hl2
    go_enter Try.func20, Try.ntmps20
    go_wp2_with (go_at_call 16; refine HC.mono ?_; rintro e w1 ⟨rfl, rfl⟩)
    go_ret2
    exact ⟨.inr ⟨fun h => HQ.out h.1, rfl⟩, Below.refl _ _⟩
  rw [decide_eq_true hq] at HC
  by_cases hkk : k2 = k
  case neg =>
    have HQ := Lib.hid (show ¬ JoinOk n z ps from fun h => hkk (by rw [← hl, ← hl2]; exact h.2.1))
    have hne : ((k2 : Int) == (k : Int)) = false := by rw [beq_eq_false_iff_ne]; omega
    clear hq hr hp hl hl2
    go_enter Try.func20, Try.ntmps20
    go_wp2_with (go_at_call 16; refine HC.mono ?_; rintro e w1 ⟨rfl, rfl⟩)
    go_ret2
    exact ⟨.inr ⟨HQ.out, rfl⟩, Below.refl _ _⟩
  subst hkk
  have HQ := Lib.hid hq
  have Hl := Lib.hid (And.intro hl hl2)
  have HR := Lib.hid hr
  have HP := Lib.hid hp
  clear hq hl hl2 hr hp
  go_enter Try.func20, Try.ntmps20
  go_wp2_with (go_at_call 16; refine HC.mono ?_; rintro e w1 ⟨rfl, rfl⟩)
  clear HC
  go_loopw [8, 9] (fun v i wr => ∃ j : Nat, j ≤ k2 ∧ i = .int .i64 (j : Int) ∧ v = .string (cat (ps.take j)) ∧ Hid (∀ (r : Nat) (p : ByteArray), (ps.take j)[r]? = some p → FitM n.toNat z (r : Int) p) ∧ Hid ((cat (ps.take j)).size ≤ 80 * j) ∧ Hid (Below w.heap.size w wr)) (fun _ i _ => k2 - (intOf i).toNat)
  case atStart => exact ⟨0, by omega, rfl, rfl, Lib.hid (fun r p h => by simp at h), Lib.hid (by simp [cat_nil, ByteArray.size]), Lib.hid (Below.refl _ _)⟩
  case round =>
    obtain ⟨j, hj, rfl, rfl, hF, hS, hW⟩ := hrel
    by_cases hlt : j < k2
    · obtain ⟨g, off, u, rfl, hgw, hu, hc0⟩ := HP.out.cell hlt
      obtain ⟨p, hpj, rfl⟩ := tvs_get hu
      have hc : wr.cell? ⟨g, off + j, none⟩ = some (.string p) := (hW.out.cell (p := ⟨g, off + j, none⟩) hgw).trans hc0
      have HF := refFits_any n A k2 c z (j : Int) p wr (HR.out.below hW.out) hk
      have HPj := Lib.hid hpj
      have hct := Lib.hid (cat_take hpj)
      obtain ⟨s, hs⟩ : ∃ s, s = cat (ps.take j) := ⟨_, rfl⟩
      have hs1 : s.size ≤ 80 * j := by rw [hs]; exact hS.out
      rw [← hs] at hct ⊢
      clear hu hpj hs
      by_cases hf : FitM n.toNat z (j : Int) p
      · rw [decide_eq_true ⟨HQ.out, hf⟩] at HF
        have Hf := Lib.hid hf
        have hp1 : p.size ≤ 80 := by rw [hf.2.1]; exact pln_le _ _
        have hk8 : k2 ≤ 820 := by
          have h1 := HQ.out
          rw [← Hl.out.1, h1.2.1]
          exact cnt_le (by have := h1.1; omega)
        have hsp : s.size + p.size ≤ 9223372036854775807 := by omega
        have hs2 : s.size ≤ 70000 := by omega
        have HKc := Lib.hid (And.intro hgw hc)
        clear hf hc0 hgw
        go_wp2_with (go_at_call 18; refine HF.mono ?_; rintro e w2 ⟨rfl, hb2⟩; have hc2 : w2.cell? ⟨g, off + j, none⟩ = some (.string p) := (hb2.cell (p := ⟨g, off + j, none⟩) (World.block_lt_of_cell? wr _ HKc.out.2)).trans HKc.out.2; clear HF)
        go_roundw
        case rel =>
          refine ⟨j + 1, by omega, by go_num, by rw [hct.out], Lib.hid fun r q hq => ?_, Lib.hid (by rw [hct.out, ByteArray.size_append]; omega), Lib.hid (hW.out.trans (hb2.mono hW.out.size))⟩
          rw [List.take_add_one, HPj.out] at hq
          by_cases hrj : r < j
          · rw [List.getElem?_append_left (by rw [List.length_take, Hl.out.2]; omega)] at hq
            exact hF.out r q hq
          · have e : r = j := by
              have h := (List.getElem?_eq_some_iff.1 hq).1
              simp only [List.length_append, List.length_take, Option.toList_some, List.length_singleton] at h
              omega
            subst e
            rw [List.getElem?_append_right (by rw [List.length_take]; omega), List.length_take, Hl.out.2, Nat.min_eq_left (by omega), Nat.sub_self] at hq
            simp at hq
            subst hq
            exact Hf.out
        case measure => simp [intOf]; omega
      · rw [decide_eq_false (show ¬ (RightM n z ∧ FitM n.toNat z (j : Int) p) from fun h => hf h.2)] at HF
        have HQN := Lib.hid (show ¬ JoinOk n z ps from fun h => hf (h.2.2 j p HPj.out))
        clear hf hc0 hgw
        go_wp2_with (go_at_call 18; refine HF.mono ?_; rintro e w2 ⟨rfl, hb2⟩)
        go_ret2
        exact ⟨.inr ⟨HQN.out, rfl⟩, hW.out.trans (hb2.mono hW.out.size)⟩
    · obtain rfl : j = k2 := by omega
      have hcat : ps.take j = ps := List.take_of_length_le (by rw [Hl.out.2]; exact Nat.le_refl _)
      have hok : JoinOk n z ps := ⟨HQ.out, by rw [Hl.out.1, Hl.out.2], fun r p h => hF.out r p (by rw [hcat]; exact h)⟩
      rw [hcat]
      have Hok := Lib.hid hok
      clear hok hcat
      go_wp2
      go_ret2
      exact ⟨.inl ⟨Hok.out, rfl⟩, hW.out⟩
end Go.Proofs.Ytjncmfjikoepgaa

/-
  The document's Sure: contract.
-/
import Derived.Test.YtbfamijlaoopaaaVwRefC
namespace Go.Proofs.Ytbfamijlaoopaaa
open Go.RowKit
def SuRel (W : World) (N : Nat) (own : Int) (l : List (Int × Int)) (b i : Value) (wr : World) : Prop := ∃ (k : Nat) (B : Int), k ≤ l.length + 1 ∧ i = .int .i64 ((k : Int) - 1) ∧ b = .int .i64 B ∧ B = ((cands own l).take k).foldl (sureStep N own l) 0 ∧ wr = W
theorem cands_at {own : Int} {l : List (Int × Int)} {k : Nat} (hk : k < l.length + 1) : (k = 0 ∧ (cands own l)[k]? = some own) ∨ ∃ j a, k = j + 1 ∧ l[j]? = some a ∧ (cands own l)[k]? = some a.2 := by
  cases k with
  | zero => exact .inl ⟨rfl, rfl⟩
  | succ j =>
    have hg := List.getElem?_eq_getElem (show j < l.length by omega)
    exact .inr ⟨j, l[j], rfl, hg, by simp [cands, hg]⟩
theorem fold_snoc {α β : Type} {f : β → α → β} {l : List α} {k : Nat} {x : α} (h : l[k]? = some x) (b : β) : (l.take (k + 1)).foldl f b = f ((l.take k).foldl f b) x := by
  rw [List.take_add_one, h, List.foldl_append]
  rfl
set_option maxHeartbeats 2000000 in
theorem rsure_any {A : Option Addr} {m c : Nat} {l : List (Int × Int)} {w : World} (h : RdK w A m l) (hm : m ≤ 1000000) (n own : Int) : Calls Try.prog 22 #[.int .i64 n, .int .i64 own, .slice A m c] w fun e w' => e = .returned (.int .i64 (sureV n own l)) ∧ w' = w := by
  have HN := rnodes_any n w
  cases hn : isN n
  · rw [show sureV n own l = 0 by unfold sureV; rw [hn]; rfl]
    rw [hn] at HN
    go_enter Try.func22, Try.ntmps22
    go_wp2_with (go_at_call 13; refine HN.mono ?_; rintro x W2 ⟨rfl, rfl⟩)
    go_ret
    exact ⟨rfl, rfl⟩
  · rw [hn] at HN
    obtain ⟨N, rfl⟩ : ∃ N : Nat, n = (N : Int) := ⟨n.toNat, by have := isN_cases hn; omega⟩
    have hN7 : N ≤ 7 := by have := isN_cases hn; omega
    have HE := Lib.hid (show sureV (N : Int) own l = (cands own l).foldl (sureStep N own l) 0 by unfold sureV; rw [hn]; rfl)
    have HR := Lib.hid h
    have HL := Lib.hid h.len
    have HCl := Lib.hid (show (cands own l).length = l.length + 1 by simp [cands])
    clear h hn
    go_enter Try.func22, Try.ntmps22
    go_wp2_with (go_at_call 13; refine HN.mono ?_; rintro x W2 ⟨rfl, rfl⟩)
    clear HN
    go_loopw [7, 8] (SuRel W2 N own l) (fun _ i _ => m + 1 - (Go.RowKit.intOf i + 1).toNat)
    case atStart => exact ⟨0, 0, Nat.zero_le _, rfl, rfl, rfl, rfl⟩
    case round =>
      obtain ⟨k, B, hk, rfl, rfl, hB, rfl⟩ := hrel
      rw [HL.out] at hk
      by_cases hlt : k < m + 1
      · have hki : (k : Int) - 1 < (m : Int) := by omega
        have hc := cands_at (own := own) (l := l) (k := k) (by rw [HL.out]; exact hlt)
        obtain ⟨x, hx, hj⟩ : ∃ x, (cands own l)[k]? = some x ∧ ((k = 0 ∧ x = own) ∨ ∃ j y, k = j + 1 ∧ l[j]? = some (y, x)) := by
          rcases hc with ⟨h0, h1⟩ | ⟨j, ⟨y, z⟩, h0, h1, h2⟩
          · exact ⟨own, h1, .inl ⟨h0, rfl⟩⟩
          · exact ⟨z, h2, .inr ⟨j, y, h0, h1⟩⟩
        have HC := rcount_any (c := c) HR.out hm N hN7 own x
        have hs := fold_snoc (f := sureStep N own l) hx 0
        rw [← hB] at hs
        have hcle : cntS N own l x ≤ 8 := by
          unfold cntS
          have := cntN_le (hasA l x) N
          split <;> omega
        unfold sureStep at hs
        clear hc hx hB
        have HS : Hid (((cands own l).take (k + 1)).foldl (sureStep N own l) 0 = if B < x ∧ N < 2 * cntS N own l x then x else B) := Lib.hid hs
        clear hs
        generalize cntS N own l x = C at HS HC hcle
        obtain ⟨r, hr, hcase⟩ : ∃ r, ((cands own l).take (k + 1)).foldl (sureStep N own l) 0 = r ∧ ((B < x ∧ N < 2 * C ∧ r = x) ∨ (B < x ∧ ¬ N < 2 * C ∧ r = B) ∨ (¬ B < x ∧ r = B)) := by
          refine ⟨_, HS.out, ?_⟩
          split <;> omega
        have Hr := Lib.hid hr
        clear hr HS
        rcases hj with ⟨rfl, rfl⟩ | ⟨j, y, rfl, hj⟩
        · have hk0 : ((0 : Nat) : Int) - 1 = -1 := rfl
          rcases hcase with ⟨c1, c2, rfl⟩ | ⟨c1, c2, rfl⟩ | ⟨c1, rfl⟩
          all_goals
            try have c2i : (N : Int) < 2 * (C : Int) := by omega
            try have c2n : ¬ ((N : Int) < 2 * (C : Int)) := by omega
            go_wp2_with (go_at_call 34; refine HC.mono ?_; rintro e W3 ⟨rfl, rfl⟩)
            go_roundw
            case rel => exact ⟨1, _, by omega, by go_num, rfl, Hr.out.symm, rfl⟩
            case measure => simp [Go.RowKit.intOf]
        · obtain ⟨b, off, ⟨y', z⟩, rfl, hb, hy, d0, d1⟩ := HR.out.get (show j < m by omega)
          have hzz : z = x := by rw [hj] at hy; injection hy with hy; injection hy with _ hy; exact hy.symm
          subst hzz
          simp only at d1
          have hji : ((j + 1 : Nat) : Int) - 1 = (j : Int) := by omega
          have hj0 : (0 : Int) ≤ (j : Int) := by omega
          rw [hji] at hki
          rw [hji]
          clear hy hj hb d0
          rcases hcase with ⟨c1, c2, rfl⟩ | ⟨c1, c2, rfl⟩ | ⟨c1, rfl⟩
          all_goals
            try have c2i : (N : Int) < 2 * (C : Int) := by omega
            try have c2n : ¬ ((N : Int) < 2 * (C : Int)) := by omega
            go_wp2_with (go_at_call 34; refine HC.mono ?_; rintro e W3 ⟨rfl, rfl⟩)
            go_roundw
            case rel => exact ⟨j + 1 + 1, _, by have := HL.out; omega, by go_num, rfl, Hr.out.symm, rfl⟩
            case measure => simp [Go.RowKit.intOf]; omega
      · obtain rfl : k = m + 1 := by omega
        have hki : ((m + 1 : Nat) : Int) - 1 = (m : Int) := by omega
        have Hf := Lib.hid (show B = sureV (N : Int) own l by rw [HE.out, hB, List.take_of_length_le (by rw [HCl.out, HL.out]; omega)])
        rw [hki]
        clear hB
        go_wp2
        go_ret
        exact ⟨by rw [← Hf.out]; rfl, rfl⟩
end Go.Proofs.Ytbfamijlaoopaaa

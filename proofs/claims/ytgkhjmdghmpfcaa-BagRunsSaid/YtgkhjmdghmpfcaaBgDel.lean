/-
  slices.Delete of messages of a row of the call's own: contract.
-/
import Derived.Test.YtgkhjmdghmpfcaaBgOwn
import Derived.Deep.RegionLaw
import Derived.Shelf.RegionOpenPlain
namespace Go.Proofs.Ytgkhjmdghmpfcaa
open Go.RowKit

theorem mcl_append (a b : List (Ms × Value)) : mcl (a ++ b) = mcl a ++ mcl b := by simp [mcl]
theorem mcl_take (l : List (Ms × Value)) (k : Nat) : (mcl l).take (k * 23) = mcl (l.take k) := fm_take mcc_len l k
theorem mcl_drop (l : List (Ms × Value)) (k : Nat) : (mcl l).drop (k * 23) = mcl (l.drop k) := fm_drop mcc_len l k
/-- The cells that a row's end is cleared with. -/
def zmcs (r : Nat) : List Value := (Builtin.zeroCells (mcs zms zv).toArray r).toList
theorem zmcs_length (r : Nat) : (zmcs r).length = r * 23 := by
  unfold zmcs
  rw [Array.length_toList, size_zeroCells]
  rfl
theorem zmcs_one (r : Nat) : ∀ u ∈ zmcs r, u.oneCell' = true := by
  intro u hu
  unfold zmcs Builtin.zeroCells at hu
  rw [Array.mem_toList_iff, Array.mem_map] at hu
  obtain ⟨i, _, rfl⟩ := hu
  have hs : (mcs zms zv).toArray.size = 23 := rfl
  have hi : i % (mcs zms zv).toArray.size < (mcs zms zv).toArray.size := Nat.mod_lt _ (by rw [hs]; decide)
  rw [getElem!_pos (mcs zms zv).toArray _ hi]
  exact mcs_one zms (e := zv) rfl _ (by rw [← List.mem_toArray]; exact Array.getElem_mem hi)
theorem run_clear_ms (w : World) (b o r c : Nat) (ty : TypeId) (hr : 0 < r) (hc : ∀ j, j < r * 23 → (w.cell? ⟨b, o + j, none⟩).isSome = true) (hf : ∀ j, j < r * 23 → w.frozen? ⟨b, o + j, none⟩ = false) :
    (Builtin.clear_ #[29] ty #[.slice (some ⟨b, o, none⟩) r c]).run Try.prog w = .ok (.tuple #[]) (w.setCells b o (zmcs r)) := by
  have hst := run_storeCells_cells (P := Try.prog) b o (zmcs r) 0 w (by simpa [zmcs_length] using hc) (by simpa [zmcs_length] using hf) (zmcs_one r)
  simp only [Nat.add_zero] at hst
  obtain ⟨m, rfl⟩ : ∃ m, r = m + 1 := ⟨r - 1, by omega⟩
  simp [Builtin.clear_, run_underlying Try.underlying29]
  exact congrArg (fun z => Result.andThen z fun _ w' => Result.ok (Value.tuple #[]) w') hst
/-- Cells are laid behind known ones. -/
theorem Whole.lays {g : Nat} {t : TypeId} {A R zs : List Value} {w : World} (h : Whole w g t (A ++ R)) (hz : zs.length ≤ R.length) : Whole (w.setCells g A.length zs) g t (A ++ (zs ++ R.drop zs.length)) := by
  have h1 := h.sets (vs := zs) (o := A.length)
  rw [layL_eq (by rw [List.length_append]; omega), List.take_append_of_le_length (Nat.le_refl _), List.take_length, List.drop_append] at h1
  rw [List.drop_eq_nil_of_le (by omega), List.nil_append, show A.length + zs.length - A.length = zs.length by omega] at h1
  rw [List.append_assoc] at h1
  exact h1
set_option maxRecDepth 100000 in
set_option maxHeartbeats 2000000 in
theorem delM_any {base g c i r t n : Nat} {l : List (Ms × Value)} {w : World} (hrow : w.ownsRow base 47 23 (.slice (some ⟨g, 0, none⟩) n c) n (mcl l)) (h1 : ∀ p ∈ l, p.2.oneCell' = true) (hnn : n = i + r + t) (hr : 0 < r) (hn : n ≤ 1000) :
    Calls Try.prog 34 #[.slice (some ⟨g, 0, none⟩) n c, .int .i64 (i : Int), .int .i64 ((i + r : Nat) : Int)] w
      fun e w' => e = .returned (.slice (some ⟨g, 0, none⟩) (i + t) c) ∧ w'.ownsRow base 47 23 (.slice (some ⟨g, 0, none⟩) (i + t) c) (i + t) (mcl (l.take i ++ l.drop (i + r))) ∧ w.grownBy w' (some g) := by
  have hl : l.length = n := by have := hrow.1; rw [mcl_len] at this; omega
  obtain ⟨post, hW, hlen, hnc, hcm, hg⟩ := row_whole hrow
  obtain ⟨i0, hi0, hz0, hz1, hz2⟩ := info_parts Try.infoMs
  obtain ⟨news, hnews⟩ : ∃ news, news = mcl (l.drop (i + r)) := ⟨_, rfl⟩
  have hnl : news.length = t * 23 := by rw [hnews, mcl_len, List.length_drop, hl]; congr 1; omega
  have hol := mcl_len l
  have cellw : ∀ j, j < c * 23 → (w.drew.cell? ⟨g, j, none⟩).isSome = true := fun j hj => by
    rw [hW.drew.cell j, List.getElem?_eq_getElem (by omega)]; rfl
  obtain ⟨A, hA, hsrc⟩ : ∃ A : Addr, (if c = i + r then some (⟨g, 0, none⟩ : Addr) else some ⟨g, (i + r) * 23, none⟩) = some A ∧ Hid (∀ t u, news[t]? = some u → w.drew.cell? (A.add t) = some u) := by
    by_cases h : c = i + r
    · refine ⟨⟨g, 0, none⟩, if_pos h, Lib.hid fun t u hu => ?_⟩
      have h0 : news.length = 0 := by rw [hnl]; omega
      rw [List.length_eq_zero_iff.1 h0] at hu
      simp at hu
    · refine ⟨⟨g, (i + r) * 23, none⟩, if_neg h, Lib.hid fun t u hu => ?_⟩
      rw [add_plain, hW.drew.cell, List.getElem?_append_left (by rw [hol]; have := (List.getElem?_eq_some_iff.1 hu).1; omega)]
      rw [hnews, ← mcl_drop, List.getElem?_drop] at hu
      simpa using hu
  have s2 : Hid (∀ u ∈ news, u.oneCell' = true) := Lib.hid fun u hu => mcl_one h1 u (by rw [hnews, ← mcl_drop] at hu; exact List.mem_of_mem_drop hu)
  have s3 : Hid (∀ t, t < news.length → (w.drew.cell? ⟨g, 0 + i * 23 + t, none⟩).isSome = true ∧ w.drew.frozen? ⟨g, 0 + i * 23 + t, none⟩ = false) := Lib.hid fun t ht => ⟨cellw _ (by rw [hnl] at ht; omega), hW.drew.free _⟩
  obtain ⟨W1, hW1⟩ : ∃ W1, W1 = w.drew.setCells g (0 + i * 23) news := ⟨_, rfl⟩
  have htl : (mcl (l.take i)).length = i * 23 := by rw [mcl_len, List.length_take]; congr 1; omega
  obtain ⟨R1, K1, hR1⟩ : ∃ R1, Whole W1 g 47 (mcl (l.take i ++ l.drop (i + r)) ++ R1) ∧ R1.length = r * 23 + post.length := by
    have e1 : mcl l ++ post = mcl (l.take i) ++ (mcl (l.drop i) ++ post) := by rw [← List.append_assoc, ← mcl_append, List.take_append_drop]
    have h2 := hW.drew
    rw [e1] at h2
    have hdl : (mcl (l.drop i)).length = (r + t) * 23 := by rw [mcl_len, List.length_drop]; congr 1; omega
    have h3 := h2.lays (zs := news) (by rw [List.length_append, hdl, hnl]; omega)
    rw [htl] at h3
    refine ⟨(mcl (l.drop i) ++ post).drop news.length, ?_, ?_⟩
    · rw [hW1, Nat.zero_add, mcl_append, List.append_assoc, ← hnews]
      exact h3
    · rw [List.length_drop, List.length_append, hdl, hnl]; omega
  have hql : (mcl (l.take i ++ l.drop (i + r))).length = (i + t) * 23 := by rw [mcl_append, List.length_append, htl, ← hnews, hnl]; omega
  have htot : (mcl (l.take i ++ l.drop (i + r)) ++ R1).length = c * 23 := by rw [List.length_append, hql, hR1]; rw [List.length_append, hol, hl] at hlen; omega
  have hcl : ∀ ty cc, (Builtin.clear_ #[29] ty #[.slice (some ⟨g, (i + t) * 23, none⟩) r cc]).run Try.prog W1 = .ok (.tuple #[]) (W1.setCells g ((i + t) * 23) (zmcs r)) := fun ty cc =>
    run_clear_ms W1 g ((i + t) * 23) r cc ty hr (fun j hj => by rw [K1.cell, List.getElem?_eq_getElem (by rw [List.length_append, hql, hR1]; omega)]; rfl) (fun j _ => K1.free _)
  have G1 : w.grownBy W1 (some g) := grown_trans (grown_below (Below.refl _ _).drew _) (by rw [hW1]; exact grown_sets _ _ _ _)
  have HF := Lib.hid (show (W1.setCells g ((i + t) * 23) (zmcs r)).ownsRow base 47 23 (.slice (some ⟨g, 0, none⟩) (i + t) c) (i + t) (mcl (l.take i ++ l.drop (i + r))) by
    have K2 := K1.lays (zs := zmcs r) (by rw [zmcs_length, hR1]; omega)
    rw [hql] at K2
    refine whole_row K2 hql ?_ (by omega) hcm hg
    rw [List.length_append, List.length_append, hql, List.length_drop, zmcs_length, hR1]
    rw [List.length_append, hql, hR1] at htot
    omega)
  have HG := Lib.hid (grown_trans G1 (grown_sets g (zmcs r) ((i + t) * 23) W1))
  have hWH := Lib.hid hW1
  have hnlH := Lib.hid hnl
  have hjc : i + r ≤ c := by omega
  have hic : i ≤ c := by omega
  have hnj : n - (i + r) = t := by omega
  obtain ⟨j, hj⟩ : ∃ j, j = i + r := ⟨_, rfl⟩
  have hij : i < j := by omega
  have hjn : j ≤ n := by omega
  obtain ⟨q, hq⟩ : ∃ q, q = i + t := ⟨_, rfl⟩
  rw [← hq] at HF HG hcl ⊢
  have hcq : ¬ c = q := by omega
  have hqn : (q : Int) ≤ (n : Int) := by omega
  have hqn' : q ≤ n := by omega
  have HQ := Lib.hid (show i + (n - j) = q by omega)
  have HQ2 := Lib.hid (show n - q = r by omega)
  have HNN := Lib.hid hnn
  have HNJ := Lib.hid (show n - j = t by omega)
  rw [← hj] at hA HF ⊢
  clear hrow hW hlen hol hnews cellw K1 hR1 G1 hW1 h1 hnl hl htl hql htot hj hnn hnj hjc hr hq
  have hjc : j ≤ c := by omega
  have hne : ((i : Int) == (j : Int)) = false := by simp; omega
  have hij' : (i : Int) ≤ (j : Int) := by omega
  have hjn' : (j : Int) ≤ (n : Int) := by omega
  have mixed : Try.prog.follows .mixedOrders = true := by kernel_rfl
  go_enter Try.func34, Try.ntmps34
  go_upto_region 5 with (fail)
  go_region_law_o (refine step_append_room rfl (.tmp 22) (.tmp 25) 29 rfl 47 i0 23 Try.underlying29 hi0 hz1 g 0 i c (by simp [Act.eval, Act.put]) A (n - j) (c - j) news (by simp [Act.eval, Act.put]) (by rw [HNJ.out]; exact hnlH.out) hsrc.out s2.out (by omega) s3.out ?_; rw [← hWH.out])
  all_goals
    rw [HQ.out]
    rw [← HQ2.out] at hcl
    clear hA s2 s3 hsrc hWH hnlH HQ HNJ
    go_wp2_with fail
    go_ret
    refine ⟨rfl, ?_, ?_⟩
    · rw [HQ2.out]
      exact HF.out
    · rw [HQ2.out]
      exact HG.out
set_option maxHeartbeats 1000000 in
theorem delM_none {A : Option Addr} {n c : Nat} {w : World} (hA : A = none → c = 0) (hnc : n ≤ c) :
    Calls Try.prog 34 #[.slice A n c, .int .i64 0, .int .i64 0] w fun e w' => e = .returned (.slice A n c) ∧ w' = w := by
  cases A with
  | none =>
    obtain rfl := hA rfl
    obtain rfl : n = 0 := by omega
    clear hA hnc
    go_enter Try.func34, Try.ntmps34
    go_wp2
    go_ret
    exact ⟨rfl, rfl⟩
  | some a =>
    clear hA
    have hni : (n : Int) ≤ (c : Int) := by omega
    have hn0 : (0 : Int) ≤ (n : Int) := by omega
    go_enter Try.func34, Try.ntmps34
    go_wp2
    all_goals (go_ret; exact ⟨rfl, rfl⟩)
end Go.Proofs.Ytgkhjmdghmpfcaa

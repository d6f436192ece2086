/-
  ViewsHave: the walk of the law.
-/
import Derived.Test.YtbfamijlaoopaaaVwLawE
namespace Go.Proofs.Ytbfamijlaoopaaa
open Go.RowKit
def HaRel (w : World) (id own s : Int) (l : List (Int × Int)) (acc i : Value) (wr : World) : Prop :=
  ∃ (j : Nat) (r : List Int), j ≤ l.length ∧ i = .int .i64 (j : Int) ∧ OwnN wr w.heap.size acc r ∧ (s ≤ own → id ∈ r) ∧ (∀ a ∈ l.take j, a.1 ≠ id ∧ (s ≤ a.2 → a.1 ∈ r)) ∧ r.length ≤ j + 1 ∧ Below w.heap.size w wr
set_option maxHeartbeats 8000000 in
theorem viewsHave_walk (nodes id own : Int) (A : Option Addr) (m c : Nat) (l : List (Int × Int)) (w : World) (h : RdK w A m l) : Calls Try.prog 8 #[.int .i64 nodes, .int .i64 id, .int .i64 own, .slice A m c] w (Holds w) := by
  have HA := Lib.hid asks_any
  have HS := Lib.hid sure_any
  have HB := Lib.hid (Below.refl w.heap.size w)
  have HN := Lib.hid (fun W => vnodes_any nodes W)
  by_cases g1 : 300 < m
  · have g1i : (300 : Int) < (m : Int) := by omega
    clear h
    go_enter Try.func8, Try.ntmps8
    go_wp2_with (first | (go_at_call 12; refine (HN.out _).mono ?_; rintro x W ⟨rfl, b⟩; have HB := Lib.hid (HB.out.trans (b.mono HB.out.size)); clear b) | (go_at_call 11; refine (HA.out _).mono ?_; rintro x W ⟨rfl, b⟩; have HB := Lib.hid (HB.out.trans (b.mono HB.out.size)); clear b) | (go_at_call 21; refine (HS.out _).mono ?_; rintro x W ⟨rfl, b⟩; have HB := Lib.hid (HB.out.trans (b.mono HB.out.size)); clear b))
    go_ret
    exact ⟨rfl, HB.out⟩
  · have g1i : ¬ ((300 : Int) < (m : Int)) := by omega
    cases hn : isN nodes
    · rw [hn] at HN
      clear h hn
      go_enter Try.func8, Try.ntmps8
      go_wp2_with (first | (go_at_call 12; refine (HN.out _).mono ?_; rintro x W ⟨rfl, b⟩; have HB := Lib.hid (HB.out.trans (b.mono HB.out.size)); clear b) | (go_at_call 11; refine (HA.out _).mono ?_; rintro x W ⟨rfl, b⟩; have HB := Lib.hid (HB.out.trans (b.mono HB.out.size)); clear b) | (go_at_call 21; refine (HS.out _).mono ?_; rintro x W ⟨rfl, b⟩; have HB := Lib.hid (HB.out.trans (b.mono HB.out.size)); clear b))
      go_ret
      exact ⟨rfl, HB.out⟩
    · rw [hn] at HN
      by_cases g3 : id < 1
      · clear h hn
        go_enter Try.func8, Try.ntmps8
        go_wp2_with (first | (go_at_call 12; refine (HN.out _).mono ?_; rintro x W ⟨rfl, b⟩; have HB := Lib.hid (HB.out.trans (b.mono HB.out.size)); clear b) | (go_at_call 11; refine (HA.out _).mono ?_; rintro x W ⟨rfl, b⟩; have HB := Lib.hid (HB.out.trans (b.mono HB.out.size)); clear b) | (go_at_call 21; refine (HS.out _).mono ?_; rintro x W ⟨rfl, b⟩; have HB := Lib.hid (HB.out.trans (b.mono HB.out.size)); clear b))
        go_ret
        exact ⟨rfl, HB.out⟩
      · by_cases g4 : nodes < id
        · clear h hn
          go_enter Try.func8, Try.ntmps8
          go_wp2_with (first | (go_at_call 12; refine (HN.out _).mono ?_; rintro x W ⟨rfl, b⟩; have HB := Lib.hid (HB.out.trans (b.mono HB.out.size)); clear b) | (go_at_call 11; refine (HA.out _).mono ?_; rintro x W ⟨rfl, b⟩; have HB := Lib.hid (HB.out.trans (b.mono HB.out.size)); clear b) | (go_at_call 21; refine (HS.out _).mono ?_; rintro x W ⟨rfl, b⟩; have HB := Lib.hid (HB.out.trans (b.mono HB.out.size)); clear b))
          go_ret
          exact ⟨rfl, HB.out⟩
        · obtain ⟨N, rfl⟩ : ∃ N : Nat, nodes = (N : Int) := ⟨nodes.toNat, by have := isN_cases hn; omega⟩
          have HR := Lib.hid (fun W (b : Below w.heap.size w W) => h.below b)
          have HL := Lib.hid h.len
          have HV := Lib.hid (fun W (b : Below w.heap.size w W) => vsure_any (c := c) (h.below b) (by omega) (N : Int) own)
          have hs0 := (sureV_spec (own := own) (l := l) hn).1
          have HHv := Lib.hid (fun (r : List Int) (h1 : sureV (N : Int) own l ≤ own → id ∈ r) (h2 : ∀ a ∈ l, a.1 ≠ id ∧ (sureV (N : Int) own l ≤ a.2 → a.1 ∈ r)) => sure_have hn (by omega) (by omega) (fun a ha => (h2 a ha).1) h1 (fun a ha => (h2 a ha).2))
          clear h hn
          generalize sureV (N : Int) own l = s at hs0 HHv HV
          go_enter Try.func8, Try.ntmps8
          go_upto_region 5 with (first | (go_at_call 12; refine (HN.out _).mono ?_; rintro x W ⟨rfl, b⟩; have HB := Lib.hid (HB.out.trans (b.mono HB.out.size)); clear b) | (go_at_call 20; refine (HV.out _ HB.out).mono ?_; rintro x W3 ⟨rfl, b⟩; have HB := Lib.hid (HB.out.trans (b.mono HB.out.size)); clear b))
          clear HN HV
          by_cases ho : s ≤ own
          · have t6 : decide (s ≤ own) = true := by simp [ho]
            obtain ⟨W4, v4, W5, sl, ap, hO5, hb5⟩ := app_int (OwnN.nil (w := W3) (base := w.heap.size)) HB.out id (by simp)
            have HST := Lib.hid (show HaRel w id own s l v4 (.int .i64 0) W5 from ⟨0, [id], Nat.zero_le _, rfl, hO5, fun _ => by simp, fun a ha => by simp at ha, by simp, hb5⟩)
            clear hO5 hb5
            go_upto_region 6 with fail
            refine wp_region_list ?_
            refine wpList_pure (v := .slice none 0 0) rfl rfl ?_
            simp only [Act.put, List.setIfInBounds_toArray, List.set_cons_zero, List.set_cons_succ]
            refine wpList_pure (v := .int .i64 id) rfl rfl ?_
            simp only [Act.put, List.setIfInBounds_toArray, List.set_cons_zero, List.set_cons_succ]
            refine wpList_slice1_run sl rfl _ rfl rfl ?_
            simp only [Act.put, List.setIfInBounds_toArray, List.set_cons_zero, List.set_cons_succ]
            refine wpList_append_run ap rfl _ _ rfl rfl rfl rfl ?_
            simp only [Act.put, List.setIfInBounds_toArray, List.set_cons_zero, List.set_cons_succ]
            refine wpList_pure (v := v4) rfl rfl (wpList_nil ?_)
            simp only [Act.put, List.setIfInBounds_toArray, List.set_cons_zero, List.set_cons_succ]
            clear ap sl
            go_wp2
            go_loopw [10, 11] (HaRel w id own s l) (fun _ i _ => m - (Go.RowKit.intOf i).toNat)
            case atStart => exact HST.out
            case round =>
              obtain ⟨j, r, hj, rfl, hO, hown, hin, hrl, hb⟩ := hrel
              rw [HL.out] at hj
              have HO := Lib.hid hO
              have Hown := Lib.hid hown
              have Hin := Lib.hid hin
              have HB := Lib.hid hb
              clear hO hown hin hb
              by_cases hlt : j < m
              · obtain ⟨b, off, ⟨y, z⟩, rfl, -, hy, d0, d1⟩ := (HR.out wr HB.out).get hlt
                have hji : (j : Int) < (m : Int) := by omega
                have Hy := Lib.hid hy
                simp only at d0 d1
                clear hy
                by_cases e : y = id
                · have t1 : (y == id) = true := by simp [e]
                  have t2 : decide (y = id) = true := by simp [e]
                  clear e
                  go_wp2_with (first | (go_at_call 11; refine (HA.out _).mono ?_; rintro x W ⟨rfl, b⟩; have HB := Lib.hid (HB.out.trans (b.mono HB.out.size)); clear b) | (go_at_call 21; refine (HS.out _).mono ?_; rintro x W ⟨rfl, b⟩; have HB := Lib.hid (HB.out.trans (b.mono HB.out.size)); clear b))
                  go_ret
                  exact ⟨rfl, HB.out⟩
                · have t1 : (y == id) = false := by simp [e]
                  have t2 : decide (y = id) = false := by simp [e]
                  by_cases e2 : s ≤ z
                  · have t3 : decide (s ≤ z) = true := by simp [e2]
                    obtain ⟨W1, v1, W2, sl, ap, hO2, hb2⟩ := app_int HO.out HB.out y (by omega)
                    have HO2 := Lib.hid hO2
                    have HB2 := Lib.hid hb2
                    have Hin2 := Lib.hid (show ∀ a ∈ l.take (j + 1), a.1 ≠ id ∧ (s ≤ a.2 → a.1 ∈ r ++ [y]) from fun a ha => by
                      rw [List.take_add_one, Hy.out] at ha
                      rcases List.mem_append.1 ha with q | q
                      · have := Hin.out a q
                        exact ⟨this.1, fun u => List.mem_append_left _ (this.2 u)⟩
                      · simp only [Option.toList_some, List.mem_singleton] at q
                        subst q
                        exact ⟨e, fun _ => by simp⟩)
                    have hrl2 : (r ++ [y]).length ≤ j + 1 + 1 := by rw [List.length_append, List.length_singleton]; omega
                    have HRL2 := Lib.hid hrl2
                    clear hO2 hb2 hrl2 e
                    go_upto_region 13 with fail
                    refine wp_region_list ?_
                    refine wpList_pure (v := u10) rfl rfl ?_
                    simp only [Act.put, List.setIfInBounds_toArray, List.set_cons_zero, List.set_cons_succ]
                    refine wpList_pure (v := .slice (some ⟨b, off, none⟩) m c) rfl rfl ?_
                    simp only [Act.put, List.setIfInBounds_toArray, List.set_cons_zero, List.set_cons_succ]
                    refine wpList_pure (v := .int .i64 (j : Int)) rfl rfl ?_
                    simp only [Act.put, List.setIfInBounds_toArray, List.set_cons_zero, List.set_cons_succ]
                    refine wpList_pure (v := .pointer (some ⟨b, off + j * 2, none⟩)) rfl (by simp only [execOp]; go_simp) ?_
                    simp only [Act.put, List.setIfInBounds_toArray, List.set_cons_zero, List.set_cons_succ]
                    refine wpList_pure (v := .pointer (some ⟨b, off + j * 2, none⟩)) rfl (by simp only [execOp]; go_simp) ?_
                    simp only [Act.put, List.setIfInBounds_toArray, List.set_cons_zero, List.set_cons_succ]
                    refine wpList_pure (v := .int .i64 y) rfl (by simp only [execOp]; go_simp) ?_
                    simp only [Act.put, List.setIfInBounds_toArray, List.set_cons_zero, List.set_cons_succ]
                    refine wpList_slice1_run sl rfl _ rfl rfl ?_
                    simp only [Act.put, List.setIfInBounds_toArray, List.set_cons_zero, List.set_cons_succ]
                    refine wpList_append_run ap rfl _ _ rfl rfl rfl rfl ?_
                    simp only [Act.put, List.setIfInBounds_toArray, List.set_cons_zero, List.set_cons_succ]
                    refine wpList_pure (v := v1) rfl rfl (wpList_nil ?_)
                    simp only [Act.put, List.setIfInBounds_toArray, List.set_cons_zero, List.set_cons_succ]
                    clear ap sl d0 d1
                    go_wp2
                    go_roundw
                    case rel => exact ⟨j + 1, r ++ [y], by have := HL.out; omega, by go_num, HO2.out, fun u => List.mem_append_left _ (Hown.out u), Hin2.out, HRL2.out, HB2.out⟩
                    case measure => simp [Go.RowKit.intOf]; omega
                  · have t3 : decide (s ≤ z) = false := by simp; omega
                    have Hin2 := Lib.hid (show ∀ a ∈ l.take (j + 1), a.1 ≠ id ∧ (s ≤ a.2 → a.1 ∈ r) from fun a ha => by
                      rw [List.take_add_one, Hy.out] at ha
                      rcases List.mem_append.1 ha with q | q
                      · exact Hin.out a q
                      · simp only [Option.toList_some, List.mem_singleton] at q
                        subst q
                        exact ⟨e, fun u => absurd u e2⟩)
                    clear e
                    go_wp2
                    go_roundw
                    case rel => exact ⟨j + 1, r, by have := HL.out; omega, by go_num, HO.out, Hown.out, Hin2.out, by omega, HB.out⟩
                    case measure => simp [Go.RowKit.intOf]; omega
              · obtain rfl : j = m := by omega
                have hji : ¬ ((j : Int) < (j : Int)) := by omega
                obtain ⟨A', c', rfl, hrd⟩ := HO.out.rd
                have HE := Lib.hid (fun W (b : Below wr.heap.size wr W) => venough_any (c := c') (hrd.below b) (by omega) (N : Int))
                have HF := Lib.hid (HHv.out r Hown.out (fun a ha => Hin.out a (by rw [List.take_of_length_le (by rw [HL.out]; omega)]; exact ha)))
                have HWr := Lib.hid (Below.refl wr.heap.size wr)
                clear hrd HO Hin Hown HHv
                rcases HF.out with hs | hs
                · have t4 : (s == 0) = true := by simp [hs]
                  have t5 : decide (s = 0) = true := by simp [hs]
                  clear hs HF
                  go_wp2_with (first | (go_at_call 11; refine (HA.out _).mono ?_; rintro x W ⟨rfl, b⟩; have HB := Lib.hid (HB.out.trans (b.mono HB.out.size)); clear b) | (go_at_call 21; refine (HS.out _).mono ?_; rintro x W ⟨rfl, b⟩; have HB := Lib.hid (HB.out.trans (b.mono HB.out.size)); clear b))
                  go_ret
                  exact ⟨rfl, HB.out⟩
                · rw [hs] at HE
                  by_cases hs0 : s = 0
                  · have t4 : (s == 0) = true := by simp [hs0]
                    have t5 : decide (s = 0) = true := by simp [hs0]
                    clear hs0 hs HF
                    go_wp2_with (first | (go_at_call 11; refine (HA.out _).mono ?_; rintro x W ⟨rfl, b⟩; have HB := Lib.hid (HB.out.trans (b.mono HB.out.size)); clear b) | (go_at_call 21; refine (HS.out _).mono ?_; rintro x W ⟨rfl, b⟩; have HB := Lib.hid (HB.out.trans (b.mono HB.out.size)); clear b))
                    go_ret
                    exact ⟨rfl, HB.out⟩
                  · have t4 : (s == 0) = false := by simp [hs0]
                    have t5 : decide (s = 0) = false := by simp [hs0]
                    clear hs0 hs HF
                    go_wp2_with (first | (go_at_call 11; refine (HA.out _).mono ?_; rintro x W ⟨rfl, b⟩; have HB4 := Lib.hid (HWr.out.trans b); clear b) | (go_at_call 21; refine (HS.out _).mono ?_; rintro x W ⟨rfl, b⟩; have HB5 := Lib.hid (HB4.out.trans (b.mono HB4.out.size)); clear b) | (go_at_call 18; refine (HE.out _ HB5.out).mono ?_; rintro x W ⟨rfl, b⟩; have HB6 := Lib.hid (HB5.out.trans (b.mono HB5.out.size)); clear b))
                    go_ret
                    exact ⟨rfl, HB.out.trans (HB6.out.mono HB.out.size)⟩
          · have t6 : decide (s ≤ own) = false := by simp; omega
            have HST := Lib.hid (show HaRel w id own s l (.slice none 0 0) (.int .i64 0) W3 from ⟨0, [], Nat.zero_le _, rfl, OwnN.nil, fun q => absurd q ho, fun a ha => by simp at ha, by simp, HB.out⟩)
            go_wp2
            go_loopw [10, 11] (HaRel w id own s l) (fun _ i _ => m - (Go.RowKit.intOf i).toNat)
            case atStart => exact HST.out
            case round =>
              obtain ⟨j, r, hj, rfl, hO, hown, hin, hrl, hb⟩ := hrel
              rw [HL.out] at hj
              have HO := Lib.hid hO
              have Hown := Lib.hid hown
              have Hin := Lib.hid hin
              have HB := Lib.hid hb
              clear hO hown hin hb
              by_cases hlt : j < m
              · obtain ⟨b, off, ⟨y, z⟩, rfl, -, hy, d0, d1⟩ := (HR.out wr HB.out).get hlt
                have hji : (j : Int) < (m : Int) := by omega
                have Hy := Lib.hid hy
                simp only at d0 d1
                clear hy
                by_cases e : y = id
                · have t1 : (y == id) = true := by simp [e]
                  have t2 : decide (y = id) = true := by simp [e]
                  clear e
                  go_wp2_with (first | (go_at_call 11; refine (HA.out _).mono ?_; rintro x W ⟨rfl, b⟩; have HB := Lib.hid (HB.out.trans (b.mono HB.out.size)); clear b) | (go_at_call 21; refine (HS.out _).mono ?_; rintro x W ⟨rfl, b⟩; have HB := Lib.hid (HB.out.trans (b.mono HB.out.size)); clear b))
                  go_ret
                  exact ⟨rfl, HB.out⟩
                · have t1 : (y == id) = false := by simp [e]
                  have t2 : decide (y = id) = false := by simp [e]
                  by_cases e2 : s ≤ z
                  · have t3 : decide (s ≤ z) = true := by simp [e2]
                    obtain ⟨W1, v1, W2, sl, ap, hO2, hb2⟩ := app_int HO.out HB.out y (by omega)
                    have HO2 := Lib.hid hO2
                    have HB2 := Lib.hid hb2
                    have Hin2 := Lib.hid (show ∀ a ∈ l.take (j + 1), a.1 ≠ id ∧ (s ≤ a.2 → a.1 ∈ r ++ [y]) from fun a ha => by
                      rw [List.take_add_one, Hy.out] at ha
                      rcases List.mem_append.1 ha with q | q
                      · have := Hin.out a q
                        exact ⟨this.1, fun u => List.mem_append_left _ (this.2 u)⟩
                      · simp only [Option.toList_some, List.mem_singleton] at q
                        subst q
                        exact ⟨e, fun _ => by simp⟩)
                    have hrl2 : (r ++ [y]).length ≤ j + 1 + 1 := by rw [List.length_append, List.length_singleton]; omega
                    have HRL2 := Lib.hid hrl2
                    clear hO2 hb2 hrl2 e
                    go_upto_region 13 with fail
                    refine wp_region_list ?_
                    refine wpList_pure (v := u10) rfl rfl ?_
                    simp only [Act.put, List.setIfInBounds_toArray, List.set_cons_zero, List.set_cons_succ]
                    refine wpList_pure (v := .slice (some ⟨b, off, none⟩) m c) rfl rfl ?_
                    simp only [Act.put, List.setIfInBounds_toArray, List.set_cons_zero, List.set_cons_succ]
                    refine wpList_pure (v := .int .i64 (j : Int)) rfl rfl ?_
                    simp only [Act.put, List.setIfInBounds_toArray, List.set_cons_zero, List.set_cons_succ]
                    refine wpList_pure (v := .pointer (some ⟨b, off + j * 2, none⟩)) rfl (by simp only [execOp]; go_simp) ?_
                    simp only [Act.put, List.setIfInBounds_toArray, List.set_cons_zero, List.set_cons_succ]
                    refine wpList_pure (v := .pointer (some ⟨b, off + j * 2, none⟩)) rfl (by simp only [execOp]; go_simp) ?_
                    simp only [Act.put, List.setIfInBounds_toArray, List.set_cons_zero, List.set_cons_succ]
                    refine wpList_pure (v := .int .i64 y) rfl (by simp only [execOp]; go_simp) ?_
                    simp only [Act.put, List.setIfInBounds_toArray, List.set_cons_zero, List.set_cons_succ]
                    refine wpList_slice1_run sl rfl _ rfl rfl ?_
                    simp only [Act.put, List.setIfInBounds_toArray, List.set_cons_zero, List.set_cons_succ]
                    refine wpList_append_run ap rfl _ _ rfl rfl rfl rfl ?_
                    simp only [Act.put, List.setIfInBounds_toArray, List.set_cons_zero, List.set_cons_succ]
                    refine wpList_pure (v := v1) rfl rfl (wpList_nil ?_)
                    simp only [Act.put, List.setIfInBounds_toArray, List.set_cons_zero, List.set_cons_succ]
                    clear ap sl d0 d1
                    go_wp2
                    go_roundw
                    case rel => exact ⟨j + 1, r ++ [y], by have := HL.out; omega, by go_num, HO2.out, fun u => List.mem_append_left _ (Hown.out u), Hin2.out, HRL2.out, HB2.out⟩
                    case measure => simp [Go.RowKit.intOf]; omega
                  · have t3 : decide (s ≤ z) = false := by simp; omega
                    have Hin2 := Lib.hid (show ∀ a ∈ l.take (j + 1), a.1 ≠ id ∧ (s ≤ a.2 → a.1 ∈ r) from fun a ha => by
                      rw [List.take_add_one, Hy.out] at ha
                      rcases List.mem_append.1 ha with q | q
                      · exact Hin.out a q
                      · simp only [Option.toList_some, List.mem_singleton] at q
                        subst q
                        exact ⟨e, fun u => absurd u e2⟩)
                    clear e
                    go_wp2
                    go_roundw
                    case rel => exact ⟨j + 1, r, by have := HL.out; omega, by go_num, HO.out, Hown.out, Hin2.out, by omega, HB.out⟩
                    case measure => simp [Go.RowKit.intOf]; omega
              · obtain rfl : j = m := by omega
                have hji : ¬ ((j : Int) < (j : Int)) := by omega
                obtain ⟨A', c', rfl, hrd⟩ := HO.out.rd
                have HE := Lib.hid (fun W (b : Below wr.heap.size wr W) => venough_any (c := c') (hrd.below b) (by omega) (N : Int))
                have HF := Lib.hid (HHv.out r Hown.out (fun a ha => Hin.out a (by rw [List.take_of_length_le (by rw [HL.out]; omega)]; exact ha)))
                have HWr := Lib.hid (Below.refl wr.heap.size wr)
                clear hrd HO Hin Hown HHv
                rcases HF.out with hs | hs
                · have t4 : (s == 0) = true := by simp [hs]
                  have t5 : decide (s = 0) = true := by simp [hs]
                  clear hs HF
                  go_wp2_with (first | (go_at_call 11; refine (HA.out _).mono ?_; rintro x W ⟨rfl, b⟩; have HB := Lib.hid (HB.out.trans (b.mono HB.out.size)); clear b) | (go_at_call 21; refine (HS.out _).mono ?_; rintro x W ⟨rfl, b⟩; have HB := Lib.hid (HB.out.trans (b.mono HB.out.size)); clear b))
                  go_ret
                  exact ⟨rfl, HB.out⟩
                · rw [hs] at HE
                  by_cases hs0 : s = 0
                  · have t4 : (s == 0) = true := by simp [hs0]
                    have t5 : decide (s = 0) = true := by simp [hs0]
                    clear hs0 hs HF
                    go_wp2_with (first | (go_at_call 11; refine (HA.out _).mono ?_; rintro x W ⟨rfl, b⟩; have HB := Lib.hid (HB.out.trans (b.mono HB.out.size)); clear b) | (go_at_call 21; refine (HS.out _).mono ?_; rintro x W ⟨rfl, b⟩; have HB := Lib.hid (HB.out.trans (b.mono HB.out.size)); clear b))
                    go_ret
                    exact ⟨rfl, HB.out⟩
                  · have t4 : (s == 0) = false := by simp [hs0]
                    have t5 : decide (s = 0) = false := by simp [hs0]
                    clear hs0 hs HF
                    go_wp2_with (first | (go_at_call 11; refine (HA.out _).mono ?_; rintro x W ⟨rfl, b⟩; have HB4 := Lib.hid (HWr.out.trans b); clear b) | (go_at_call 21; refine (HS.out _).mono ?_; rintro x W ⟨rfl, b⟩; have HB5 := Lib.hid (HB4.out.trans (b.mono HB4.out.size)); clear b) | (go_at_call 18; refine (HE.out _ HB5.out).mono ?_; rintro x W ⟨rfl, b⟩; have HB6 := Lib.hid (HB5.out.trans (b.mono HB5.out.size)); clear b))
                    go_ret
                    exact ⟨rfl, HB.out.trans (HB6.out.mono HB.out.size)⟩
end Go.Proofs.Ytbfamijlaoopaaa

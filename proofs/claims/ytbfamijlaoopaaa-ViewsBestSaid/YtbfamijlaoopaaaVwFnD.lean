/-
  The program's own Sure: what all have, in one row, put in order; the one that enough have: contract.
-/
import Derived.Test.YtbfamijlaoopaaaVwFnA
import Derived.Test.YtbfamijlaoopaaaVwFnS
import Derived.Lib.MinMax
import Derived.RegionTactic
namespace Go.Proofs.Ytbfamijlaoopaaa
open Go.RowKit
theorem haves_get {N Y : Nat} {own : Int} {l : List (Int × Int)} (h1 : 1 ≤ Y) (h2 : Y ≤ N) : (haves N own l)[Y]? = some (hasN l (Y : Int)) := by
  obtain ⟨q, rfl⟩ : ∃ q, Y = q + 1 := ⟨Y - 1, by omega⟩
  unfold haves
  rw [List.getElem?_cons_succ, List.getElem?_map, List.getElem?_range (by omega)]
  rfl
theorem haves_other {N : Nat} {own : Int} {l : List (Int × Int)} {j : Nat} {a : Int × Int} (h : l[j]? = some a) (ha : ¬ (1 ≤ a.1 ∧ a.1 ≤ (N : Int))) : haves N own (l.take (j + 1)) = haves N own (l.take j) := by
  unfold haves
  congr 1
  refine List.map_congr_left fun i hi => ?_
  rw [hasN_snoc h, if_neg fun e => ha ?_]
  have := List.mem_range.1 hi
  rw [e]
  omega
theorem haves_set {N Y : Nat} {own z : Int} {l : List (Int × Int)} {j : Nat} (h : l[j]? = some ((Y : Int), z)) (h1 : 1 ≤ Y) (h2 : Y ≤ N) : haves N own (l.take (j + 1)) = (haves N own (l.take j)).set Y (max (hasN (l.take j) (Y : Int)) z) := by
  apply List.ext_getElem?
  intro i
  rw [List.getElem?_set, haves_len]
  by_cases hi : Y = i
  · subst hi
    rw [if_pos rfl, if_pos (by omega), haves_get h1 h2, hasN_snoc h, if_pos rfl]
  · rw [if_neg hi]
    unfold haves
    match i with
    | 0 => rfl
    | i + 1 =>
      rw [List.getElem?_cons_succ, List.getElem?_cons_succ, List.getElem?_map, List.getElem?_map]
      by_cases hi2 : i < N
      · rw [List.getElem?_range hi2]
        simp only [Option.map_some]
        rw [hasN_snoc h, if_neg fun e => hi (by simp only at e; omega)]
      · rw [List.getElem?_eq_none (by simp; omega)]
        rfl
theorem haves_nil (N : Nat) (own : Int) : ivl (haves N own []) = (reps (N + 1) (.int .i64 0)).set 0 (.int .i64 (max own 0)) := by
  unfold haves reps ivl
  rw [List.replicate_succ, List.set_cons_zero, List.map_cons, List.map_map]
  congr 1
  apply List.ext_getElem?
  intro i
  rw [List.getElem?_map, List.getElem?_replicate]
  by_cases hi : i < N
  · rw [List.getElem?_range hi, if_pos hi]
    simp [hasN]
  · rw [List.getElem?_eq_none (by simp; omega), if_neg hi]
    rfl
theorem ivl_set (l : List Int) (i : Nat) (x : Int) : (ivl l).set i (.int .i64 x) = ivl (l.set i x) := by simp [ivl, List.map_set]
def HavRel (W : World) (N : Nat) (own : Int) (l : List (Int × Int)) (i : Value) (wr : World) : Prop := ∃ j : Nat, j ≤ l.length ∧ i = .int .i64 (j : Int) ∧ Hid (Whole wr W.heap.size 44 (ivl (haves N own (l.take j))) ∧ Below W.heap.size W wr)
set_option maxRecDepth 20000 in
set_option maxHeartbeats 2000000 in
theorem vsure0 {A : Option Addr} {m c : Nat} {l : List (Int × Int)} {w : World} (h : RdK w A m l) (hm : m ≤ 1000000) (n own : Int) : Calls Try.prog 20 #[.int .i64 n, .int .i64 own, .slice A m c] w fun e w' => e = .returned (.int .i64 (sureV n own l)) ∧ Below w.heap.size w w' := by
  have HN := vnodes0 n w
  cases hn : isN n
  · rw [show sureV n own l = 0 by unfold sureV; rw [hn]; rfl]
    rw [hn] at HN
    clear h
    go_enter Try.func20, Try.ntmps20
    go_wp2_with (go_at_call 12; refine HN.mono ?_; rintro x W2 ⟨rfl, rfl⟩)
    go_ret
    exact ⟨rfl, Below.refl _ _⟩
  · obtain ⟨N, rfl⟩ : ∃ N : Nat, n = (N : Int) := ⟨n.toNat, by have := isN_cases hn; omega⟩
    have hN7 : N ≤ 7 := by have := isN_cases hn; omega
    rw [hn] at HN
    have Hn := Lib.hid hn
    have HL := Lib.hid h.len
    have HR := Lib.hid h
    have mk := run_makeV (P := Try.prog) (t := 43) (e := 44) (z := .int .i64 0) (bytes := 8) Try.underlying43 (by kernel_rfl) rfl (N + 1) (by omega) (by omega) w
    rw [show ((N + 1 : Nat) : Int) = (N : Int) + 1 from rfl] at mk
    have K1 := Whole.new w (reps (N + 1) (.int .i64 0)).toArray 44
    have B1 := (Below.refl w.heap.size w).alloc (Nat.le_refl _) (.cells (reps (N + 1) (.int .i64 0)).toArray 44)
    have HK := Lib.hid (And.intro K1 B1)
    clear K1 B1 h hn
    go_enter Try.func20, Try.ntmps20
    go_upto_region 4 with (go_at_call 12; refine HN.mono ?_; rintro x W2 ⟨rfl, rfl⟩)
    clear HN mk
    generalize World.alloc _ _ = W1 at HK ⊢
    have c0 := HK.out.1.cell 0
    have f0 := HK.out.1.free 0
    have i0 : (0 : Int) < (N : Int) + 1 := by omega
    simp only [reps, List.replicate_succ, List.getElem?_cons_zero] at c0
    go_upto_region 5 with fail
    have K2 := HK.out.1.set 0 (.int .i64 (max own 0))
    rw [← haves_nil N own] at K2
    have B2 := HK.out.2.grown (grown_set W1 W2.heap.size 0 (.int .i64 (max own 0))) HK.out.2.size (fun j hj => by cases hj; exact Nat.le_refl _)
    have HK2 := Lib.hid (And.intro K2 B2)
    clear K2 B2 HK c0 f0 i0
    generalize World.setCell _ _ _ = W3 at HK2 ⊢
    go_upto_region 6 with fail
    go_loopw [22] (HavRel W2 N own l) (fun i _ => m - (Go.RowKit.intOf i).toNat)
    case atStart => exact ⟨0, Nat.zero_le _, rfl, Lib.hid HK2.out⟩
    case round =>
      clear HK2
      obtain ⟨j, hj, rfl, HK⟩ := hrel
      rw [HL.out] at hj
      by_cases hlt : j < m
      · have hji : (j : Int) < (m : Int) := by omega
        obtain ⟨b, off, ⟨y, z⟩, rfl, hb, hy, d0, d1⟩ := (HR.out.below HK.out.2).get hlt
        simp only at d0 d1
        have Hy := Lib.hid hy
        clear hy hb
        have HI := isnode0 N y
        have hA := Whole.new wr #[.int .i64 y, .int .i64 z] 32
        have hbA := (Below.refl wr.heap.size wr).alloc (Nat.le_refl _) (.cells #[.int .i64 y, .int .i64 z] 32)
        have HA := Lib.hid (And.intro hA hbA)
        clear hA hbA
        go_upto_region 8 with fail
        generalize World.alloc _ _ = W4 at HA ⊢
        have e0 := HA.out.1.cell 0
        have e1 := HA.out.1.cell 1
        simp only [List.getElem?_cons_zero, List.getElem?_cons_succ] at e0 e1
        have HI4 := HI W4
        clear HI d0 d1
        cases hnd : isNd N y
        · rw [hnd] at HI4
          have HO := Lib.hid (haves_other (N := N) (own := own) Hy.out (by rw [← isNd_iff, hnd]; simp))
          clear hnd
          go_wp2_with (go_at_call 28; refine HI4.mono ?_; rintro x W5 ⟨rfl, rfl⟩)
          go_roundw
          case rel => exact ⟨j + 1, by have := HL.out; omega, by go_num, Lib.hid ⟨by rw [HO.out]; exact HK.out.1.below HA.out.2, HK.out.2.trans (HA.out.2.mono HK.out.2.size)⟩⟩
          case measure => simp [Go.RowKit.intOf]; omega
        · rw [hnd] at HI4
          have hb := isNd_iff.1 hnd
          obtain ⟨Y, rfl⟩ : ∃ Y : Nat, y = (Y : Int) := ⟨y.toNat, by omega⟩
          have HO := Lib.hid (haves_set (N := N) (own := own) Hy.out (by omega) (by omega))
          have K4 := HK.out.1.below HA.out.2
          have cY := K4.cell Y
          rw [ivl, List.getElem?_map, haves_get (by omega) (by omega)] at cY
          simp only [Option.map_some] at cY
          have fY := K4.free Y
          have hY : (Y : Int) < (N : Int) + 1 := by omega
          have hne : ¬ (wr.heap.size = W2.heap.size) := by have := HK.out.1.lt; omega
          have K5 := K4.set Y (.int .i64 (max (hasN (l.take j) (Y : Int)) z))
          rw [ivl_set, ← HO.out] at K5
          have B5 := (HK.out.2.trans (HA.out.2.mono HK.out.2.size)).grown (grown_set W4 W2.heap.size Y (.int .i64 (max (hasN (l.take j) (Y : Int)) z))) (by have := HK.out.2.size; have := HA.out.2.size; omega) (fun j hj => by cases hj; exact Nat.le_refl _)
          have HK5 := Lib.hid (And.intro K5 B5)
          generalize hasN (l.take j) (Y : Int) = v at cY HK5
          clear hnd K4 K5 B5 HO hb
          go_upto_region 9 with (go_at_call 28; refine HI4.mono ?_; rintro x W5 ⟨rfl, rfl⟩)
          clear HI4
          go_region
          go_wp2_with fail
          go_roundw
          case rel => exact ⟨j + 1, by have := HL.out; omega, by go_num, Lib.hid ⟨HK5.out.1, HK5.out.2.drew⟩⟩
          case measure => simp [Go.RowKit.intOf]; omega
      · obtain rfl : j = m := by omega
        have hji : ¬ ((j : Int) < (j : Int)) := by omega
        rw [List.take_of_length_le (by rw [HL.out]; omega)] at HK
        have HS : Calls Try.prog 32 #[.slice (some ⟨W2.heap.size, 0, none⟩) (N + 1) (N + 1), agv] wr fun e w' => e = .returned (.tuple #[]) ∧ ∃ r : List Int, r.Perm (haves N own l) ∧ r.Pairwise (· ≤ ·) ∧ Whole w' W2.heap.size 44 (ivl r) ∧ wr.grownBy w' (some W2.heap.size) := by
          have := sortn0 (c := N + 1) HK.out.1 (by rw [haves_len]; omega)
          rwa [haves_len] at this
        unfold agv at HS
        have HO := order0 wr
        unfold agv at HO
        have HF := fun W => fewest0 N (by omega) W
        obtain ⟨q, hq⟩ : ∃ q, q = N / 2 + 1 := ⟨_, rfl⟩
        rw [← hq] at HF
        have hq1 : q ≤ N := by have := isN_cases Hn.out; omega
        have hq2 : (N : Int) + 1 - (q : Int) = ((N + 1 - q : Nat) : Int) := by omega
        have hq3 : ((N + 1 - q : Nat) : Int) < (N : Int) + 1 := by omega
        obtain ⟨d, hd⟩ : ∃ d, d = N + 1 - q := ⟨_, rfl⟩
        rw [← hd] at hq2 hq3
        have HT := Lib.hid fun (r : List Int) (hp : r.Perm (haves N own l)) (hr : r.Pairwise (· ≤ ·)) => (show ∃ t : Int, r[d]? = some t ∧ sureV (N : Int) own l = t by
          have hl : r.length = N + 1 := by rw [hp.length_eq, haves_len]
          have hg : r[d]? = some (r[d]'(by omega)) := List.getElem?_eq_getElem (by omega)
          exact ⟨_, hg, haves_sure Hn.out hp hr (by rw [← hq, ← hd]; exact hg)⟩)
        have Hq := Lib.hid hq
        have Hd := Lib.hid hd
        clear hq hd
        go_wp2_with (first | (go_at_call 33; refine HO.mono ?_; rintro x W5 ⟨rfl, rfl⟩) | (go_at_call 32; refine HS.mono ?_; rintro x W6 ⟨rfl, r, hp, hr, k6, g6⟩; obtain ⟨t, ht, hs⟩ := HT.out r hp hr; have c6 := k6.cell d; rw [ivl, List.getElem?_map, ht] at c6; simp only [Option.map_some] at c6; have H6 := Lib.hid (And.intro hs (HK.out.2.grown g6 HK.out.2.size (fun j hj => by cases hj; exact Nat.le_refl _))); clear hp hr k6 g6 ht hs HT) | (go_at_call 30; refine (HF _).mono ?_; rintro x W7 ⟨rfl, rfl⟩))
        go_ret
        exact ⟨by rw [H6.out.1]; rfl, H6.out.2⟩
end Go.Proofs.Ytbfamijlaoopaaa

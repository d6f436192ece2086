/-
  The walk of the law ChunkChecks: it says true, whatever came in, and nothing that was there is written over.
-/
import Derived.Test.YtjncmfjikoepgaaChCu
namespace Go.Proofs.Ytjncmfjikoepgaa
open Go.RowKit

/-- append(v, more...) of cells onto a slice of the call's own. -/
theorem run_app_row {P : Program} {w : World} (base : Nat) (t ty U : TypeId) (ht : P.underlying t = some (.slice U)) {z : Value} {b : Nat} (hinfo : (P.info? U).map (fun i => (i.zero, i.size, i.bytes)) = some (some z, 1, b)) (hz : z.cells.size = 1) (_hb0 : 0 < b) (hb : b ≤ 16)
    (v : Value) (l : List Value) (hown : OwnV U w base v l) (A : Option Addr) (m c : Nat) (news : List Value) (hr : RdV w A m news) (h1 : ∀ u ∈ news, u.oneCell' = true)
    (hle : l.length + m ≤ 1000000) (hbase : base ≤ w.heap.size) :
    ∃ v' w', (Builtin.append_ #[t, t] ty #[v, .slice A m c]).run P w = .ok v' w' ∧ OwnV U w' base v' (l ++ news) ∧ w.grownBy w' v.ownBlock := by
  obtain ⟨i0, hi, hz0, hz1, hz2⟩ := info_parts hinfo
  have hm : news.length = m := hr.len
  by_cases h0 : m = 0
  · subst h0
    obtain rfl : news = [] := List.eq_nil_of_length_eq_zero hm
    have hrun : (Builtin.append_ #[t, t] ty #[v, .slice A 0 c]).run P w = .ok v w := by
      rcases hown.2 with ⟨rfl, _⟩ | ⟨g, cap, cur, rfl, _, _, hnc, _⟩
      · cases A <;> simp [Builtin.append_, run_underlying ht, sizeOf, typeInfo, hi, Builtin.lenOf, Builtin.firstCells, loadCells, loadCellsFrom]
      · cases A <;> simp [Builtin.append_, run_underlying ht, sizeOf, typeInfo, hi, Builtin.lenOf, Builtin.firstCells, loadCells, loadCellsFrom, hnc, storeCells]
    exact ⟨v, w, hrun, by rw [List.append_nil]; exact hown, ⟨rfl, rfl, rfl, Nat.le_refl _, fun _ _ _ => rfl⟩⟩
  · obtain ⟨g, off, rfl, hgb, hc⟩ := hr.at_ (by omega)
    have hmm : (l.length + m) * b ≤ 1000000 * 16 := Nat.mul_le_mul hle hb
    obtain ⟨v', w', hrun, k1, k2, _, _⟩ := run_append_own_at (P := P) w base t ty U i0 z 1 b ht hi hz0 hz1 hz2 hz (by omega) v l.length l hown ⟨g, off, none⟩ m c news (by rw [hm]; omega)
      (fun j u hj => by rw [add_plain]; exact hc j u hj) h1 (by simp only [maxLen]; omega) (by omega) hbase
    refine ⟨v', w', hrun, ?_, k2⟩
    unfold OwnV
    rw [List.length_append, hm]
    exact k1
theorem ivs_one (l : List Int) : ∀ u ∈ ivs l, u.oneCell' = true := by
  intro u hu
  simp only [ivs, List.mem_map] at hu
  obtain ⟨x, _, rfl⟩ := hu
  rfl
set_option maxRecDepth 20000 in
set_option maxHeartbeats 2000000 in
theorem chunkChecks_walk (n : Int) (A : Option Addr) (k c : Nat) (z : List Int) (i : Int) (p : ByteArray) (w : World) (hr : RdV w A k (ivs z)) :
    Calls Try.prog 4 #[.int .i64 n, .slice A k c, .int .i64 i, .string p] w (Holds w) := by
  by_cases h1 : 2000 < k
  · have d1 : decide (2000 < (k : Int)) = true := decide_eq_true (by omega)
    go_enter Try.func4, Try.ntmps4
    go_wp2
    go_ret
    exact ⟨rfl, Below.refl _ _⟩
  have d1 : decide (2000 < (k : Int)) = false := decide_eq_false (by omega)
  by_cases h2 : 131072 < p.size
  · have d2 : decide (131072 < (p.size : Int)) = true := decide_eq_true (by omega)
    go_enter Try.func4, Try.ntmps4
    go_wp2
    go_ret
    exact ⟨rfl, Below.refl _ _⟩
  have d2 : decide (131072 < (p.size : Int)) = false := decide_eq_false (by omega)
  have hl : z.length = k := by have := hr.len; rwa [ivs_length] at this
  obtain ⟨v1, w1, hap, ho1, hg1⟩ := run_app_row (P := Try.prog) w.heap.size 22 22 3 Try.underlying22 Try.infoIntL rfl (by decide) (by decide) (.slice none 0 0) [] OwnV.nil A k c (ivs z) hr (ivs_one z) (by simp; omega) (Nat.le_refl _)
  rw [List.nil_append] at ho1
  have hb1 : Below w.heap.size w w1 := (Below.refl _ _).grown hg1 (Nat.le_refl _) fun q hq => by cases hq
  obtain ⟨A1, c1, rfl, _, _, r1⟩ := OwnV.shape ho1 (n := k) (by rw [ivs_length, hl])
  have K2 := Whole.new w1 #[.int .i64 n, .slice A k c] 24
  have B2 := hb1.alloc hb1.size (.cells #[.int .i64 n, .slice A k c] 24)
  have B12 : Below w1.heap.size w1 (w1.alloc (.cells #[.int .i64 n, .slice A k c] 24)) := (Below.refl _ _).alloc (Nat.le_refl _) _
  have HH := Lib.hid (And.intro K2 (And.intro B2 (And.intro (hr.below B2) (r1.below B12))))
  clear hb1 K2 B2 B12 r1 ho1 hg1 hl hr
  go_enter Try.func4, Try.ntmps4
  go_upto_region 6 with (at_builtin; refine wpList_append_run hap rfl _ _ rfl rfl rfl rfl ?_)
  clear hap
  obtain ⟨g, hg⟩ : ∃ g, g = w1.heap.size := ⟨_, rfl⟩
  rw [← hg] at HH ⊢
  clear hg
  generalize w1.alloc (.cells _ 24) = W at HH ⊢
  have HK : Hid (∀ V, Below W.heap.size W V → V.cell? ⟨g, 0, none⟩ = some (.int .i64 n) ∧ V.cell? ⟨g, 1, none⟩ = some (.slice A k c)) := Lib.hid fun V hV => by
    have k := HH.out.1.below hV
    have k0 := k.cell 0
    have k1 := k.cell 1
    simp only [List.getElem?_cons_succ, List.getElem?_cons_zero] at k0 k1
    exact ⟨k0, k1⟩
  have HF := Lib.hid fun V (hV : Below W.heap.size W V) => fits_any n A k c z i p V (HH.out.2.2.1.below hV) (by omega)
  have HG := Lib.hid fun V (hV : Below W.heap.size W V) => refFits_any n A1 k c1 z i p V (HH.out.2.2.2.below hV) (by omega)
  have HR := Lib.hid fun V (hV : Below W.heap.size W V) => refRight_any n A1 k c1 z V (HH.out.2.2.2.below hV) (by omega)
  have HI := Lib.hid fun V (hV : Below W.heap.size W V) => ints_any A A1 k c k c1 z z V (HH.out.2.2.1.below hV) (HH.out.2.2.2.below hV) (by omega)
  have HC := Lib.hid (check_any n A k c z W HH.out.2.2.1 (by omega))
  have HB := Lib.hid HH.out.2.1
  clear HH
  generalize decide (RightM n z ∧ FitM n.toNat z i p) = bf at HF HG
  rw [decide_eq_true (show z = z from rfl)] at HI
  generalize decide (RightM n z) = br at HR HC
  obtain ⟨x0, x1⟩ := HK.out W (Below.refl _ _)
  go_wp2_with fail
  refine HC.out.mono ?_
  rintro e w2 ⟨r, rfl, hrr, b2⟩
  obtain ⟨w2', hw2⟩ : ∃ w2', w2' = w2 := ⟨_, rfl⟩
  subst hw2
  clear x0 x1
  rcases hrr with ⟨rfl, rfl⟩ | ⟨rfl, rfl⟩
  · go_wp2_with (first | (go_at_call 14; refine (cuts_holds _).mono ?_; rintro e w3 ⟨rfl, b3⟩; have B3 := b2.trans (b3.mono b2.size); obtain ⟨x0, x1⟩ := HK.out w3 B3) | (go_at_call 16; refine (HR.out _ B3).mono ?_; rintro e w4 ⟨rfl, rfl⟩) | (go_at_call 17; refine (HF.out _ B3).mono ?_; rintro e w5 ⟨rfl, b5⟩; have B5 := B3.trans (b5.mono B3.size)) | (go_at_call 18; refine (HG.out _ B5).mono ?_; rintro e w6 ⟨rfl, b6⟩; have B6 := B5.trans (b6.mono B5.size)) | (go_at_call 13; refine (HI.out _ B6).mono ?_; rintro e w7 ⟨rfl, b7⟩))
    go_ret
    have q1 := B6.trans (b7.mono B6.size)
    exact ⟨rfl, HB.out.trans (q1.mono HB.out.size)⟩
  · go_wp2_with (first | (go_at_call 14; refine (cuts_holds _).mono ?_; rintro e w3 ⟨rfl, b3⟩; have B3 := b2.trans (b3.mono b2.size); obtain ⟨x0, x1⟩ := HK.out w3 B3) | (go_at_call 16; refine (HR.out _ B3).mono ?_; rintro e w4 ⟨rfl, rfl⟩) | (go_at_call 17; refine (HF.out _ B3).mono ?_; rintro e w5 ⟨rfl, b5⟩; have B5 := B3.trans (b5.mono B3.size)) | (go_at_call 18; refine (HG.out _ B5).mono ?_; rintro e w6 ⟨rfl, b6⟩; have B6 := B5.trans (b6.mono B5.size)) | (go_at_call 13; refine (HI.out _ B6).mono ?_; rintro e w7 ⟨rfl, b7⟩))
    go_ret
    have q1 := B6.trans (b7.mono B6.size)
    exact ⟨rfl, HB.out.trans (q1.mono HB.out.size)⟩
end Go.Proofs.Ytjncmfjikoepgaa

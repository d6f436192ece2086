/-
  The walks of the laws CodeNil and CodeBack, and the readers' example that each law asks.
-/
import Derived.Test.YtllbebbmnjojgaaLawB
namespace Go.Proofs.Ytllbebbmnjojgaa
open Go.RowKit

theorem Rdr.lt {w : World} {g : Nat} {l : List UInt8} (h : Rdr w g l) : g < w.heap.size := by
  obtain ⟨A, n, c, hb, _⟩ := h
  exact (Array.getElem?_eq_some_iff.1 hb).1
theorem Rdr.below {w w' : World} {g : Nat} {l : List UInt8} (h : Rdr w g l) (hb : Below w.heap.size w w') : Rdr w' g l := by
  have hlt := h.lt
  obtain ⟨A, n, c, hblk, hrd, hnc, hcm⟩ := h
  exact ⟨A, n, c, by rw [hb.block g hlt]; exact hblk, hrd.below hb, hnc, hcm⟩
/-- A step that turns one block of the call's own. -/
theorem below_step {B g : Nat} {w0 w w' : World} (h : Below B w0 w) (hg : w.grownBy w' (some g)) (hB : B ≤ w.heap.size) (hr : B ≤ g) : Below B w0 w' :=
  h.grown hg hB fun k hk => by injection hk with hk; omega

set_option maxHeartbeats 1000000 in
theorem reads_any (w : World) : Calls Try.prog 29 #[] w (Holds w) := by
  have hr0 : Rd (w.alloc (.cells #[.int .u8 0, .int .u8 0, .int .u8 1, .int .u8 2, .int .u8 9] 5)) (some ⟨w.heap.size, 0, none⟩) 5 [0, 0, 1, 2, 9] := Rd.lit (l := [0, 0, 1, 2, 9]) _ rfl (by decide)
  have e1 : rnum [0, 0, 1, 2, 9] = (258, 4, 0) := by decide
  have e2 : rnum [9] = (0, 0, 10) := by decide
  have E1 := Lib.hid e1
  have E2 := Lib.hid e2
  clear e1 e2
  go_enter Try.func29, Try.ntmps29
  go_wp2_with fail
  refine (new_any _ 5 5 _ _ hr0 (by omega)).mono ?_
  rintro e w1 ⟨g, rfl, hg1, hlt, hr1, hb1⟩
  have hb1' : Below w.heap.size w w1 := ((Below.refl w.heap.size w).alloc (Nat.le_refl _) _).trans (hb1.mono (by simp))
  have hgw : w.heap.size ≤ g := by simp at hg1; omega
  clear hr0 hb1 hg1
  go_wp2_with fail
  refine (number_any g _ w1 hr1).mono ?_
  rintro e w2 ⟨rfl, hr2, hs2⟩
  have hb2 := below_step hb1' hs2 hb1'.size hgw
  rw [E1.out] at hr2 ⊢
  clear hs2
  go_wp2_with fail
  refine (number_any g [9] w2 hr2).mono ?_
  rintro e w3 ⟨rfl, hr3, hs3⟩
  have hb3 := below_step hb2 hs3 hb2.size hgw
  rw [E2.out] at hr3 ⊢
  clear hs3
  go_wp2_with fail
  refine (left_any g [9] w3 hr3).mono ?_
  rintro e w4 ⟨rfl, rfl⟩
  go_wp2
  go_ret
  exact ⟨rfl, hb3⟩

set_option maxHeartbeats 1000000 in
theorem codeNil_walk (A : Option Addr) (n c : Nat) (w : World) :
    Calls Try.prog 9 #[.slice A n c] w (Holds w) := by
  by_cases hn : 262144 < n
  · go_enter Try.func9, Try.ntmps9
    go_wp2
    go_ret
    exact ⟨rfl, Below.refl _ _⟩
  · go_enter Try.func9, Try.ntmps9
    go_wp2_with fail
    refine (nil_number w).mono ?_
    rintro e w1 ⟨rfl, rfl⟩
    go_wp2_with fail
    refine (nil_int w).mono ?_
    rintro e w1 ⟨rfl, rfl⟩
    go_wp2_with fail
    refine (nil_text w).mono ?_
    rintro e w1 ⟨rfl, rfl⟩
    go_wp2_with fail
    refine (reads_any w).mono ?_
    rintro e w1 ⟨rfl, hb⟩
    go_wp2_with fail
    refine (nil_left w1).mono ?_
    rintro e w2 ⟨rfl, rfl⟩
    go_wp2
    go_ret
    exact ⟨rfl, hb⟩
end Go.Proofs.Ytllbebbmnjojgaa

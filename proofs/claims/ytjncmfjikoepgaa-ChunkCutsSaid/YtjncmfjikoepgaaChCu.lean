/-
  The statements' own helpers: cuts, joins: each says true.
-/
import Derived.Test.YtjncmfjikoepgaaChLw
namespace Go.Proofs.Ytjncmfjikoepgaa
open Go.RowKit

/-- What Of tells of a text that is not too long. -/
def OfY (w : World) (s : ByteArray) (e : Ending) (w' : World) : Prop :=
  ∃ A c, e = .returned (.tuple #[.agg #[.int .i64 s.size, .slice A (cnt s.size) c], .int .i64 0]) ∧ OwnV 3 w' w.heap.size (.slice A (cnt s.size) c) (ivs (sms s)) ∧ RdV w' A (cnt s.size) (ivs (sms s)) ∧ Below w.heap.size w w'
theorem of_yes (s : ByteArray) (w : World) (hs : s.size ≤ 65536) : Calls Try.prog 9 #[.string s] w (OfY w s) :=
  (of_any s w (by omega)).mono fun e w' ⟨h1, h2⟩ => by
    rcases h1 with ⟨_, v, rfl, ho⟩ | ⟨h, _⟩
    · obtain ⟨A, c, rfl, _, _, hr⟩ := OwnV.shape ho (n := cnt s.size) (by rw [ivs_length, sms_length])
      exact ⟨A, c, rfl, ho, hr, h2⟩
    · exact absurd hs h
theorem of_no (s : ByteArray) (w : World) (hs : ¬ s.size ≤ 65536) (hl : s.size ≤ 1000000) : Calls Try.prog 9 #[.string s] w fun e w' => e = .returned (.tuple #[.agg #[.int .i64 0, .slice none 0 0], .int .i64 100]) ∧ Below w.heap.size w w' :=
  (of_any s w hl).mono fun e w' ⟨h1, h2⟩ => by
    rcases h1 with ⟨h, _⟩ | ⟨_, h⟩
    · exact absurd h hs
    · exact ⟨h, h2⟩
theorem cut_yes (s : ByteArray) (j : Nat) (w : World) (hs : s.size ≤ 65536) (hj : j < cnt s.size) : Calls Try.prog 11 #[.string s, .int .i64 (j : Int)] w fun e w' => e = .returned (.tuple #[.string (pce s j), .int .i64 0]) ∧ Below w.heap.size w w' :=
  (cut_any s j w (by omega) (by have := cnt_le hs; omega)).mono fun e w' ⟨h1, h2⟩ => by
    rcases h1 with ⟨_, h⟩ | ⟨h, _⟩
    · rw [Int.toNat_natCast] at h
      exact ⟨h, h2⟩
    · exact absurd ⟨hs, by omega, by omega⟩ h
theorem cut_no (s : ByteArray) (i : Int) (w : World) (hs : s.size ≤ 1000000) (hi : -9223372036854775808 ≤ i ∧ i ≤ 9223372036854775807) (hn : ¬ (s.size ≤ 65536 ∧ 0 ≤ i ∧ i < cnt s.size)) : Calls Try.prog 11 #[.string s, .int .i64 i] w fun e w' => e = .returned (.tuple #[.string ⟨#[]⟩, .int .i64 100]) ∧ Below w.heap.size w w' :=
  (cut_any s i w hs hi).mono fun e w' ⟨h1, h2⟩ => by
    rcases h1 with ⟨h, _⟩ | ⟨_, h⟩
    · exact absurd h hn
    · exact ⟨h, h2⟩
theorem check_yes (n : Int) (A : Option Addr) (k c : Nat) (z : List Int) (w : World) (hr : RdV w A k (ivs z)) (hk : k ≤ 1000000000) (hq : RightM n z) : Calls Try.prog 15 #[.agg #[.int .i64 n, .slice A k c]] w fun e w' => e = .returned (.int .i64 0) ∧ Below w.heap.size w w' :=
  (check_any n A k c z w hr hk).mono fun e w' ⟨r, h1, h2, h3⟩ => by
    rw [decide_eq_true hq] at h2
    obtain rfl := tellsE_yes h2
    exact ⟨h1, h3⟩
theorem row81 (w : World) : Calls Try.prog 30 #[.int .i64 81] w fun e w' => e = .returned (.string (rowS 81)) ∧ Below w.heap.size w w' := row_any 81 w (by decide)
theorem row80 (w : World) : Calls Try.prog 30 #[.int .i64 80] w fun e w' => e = .returned (.string (rowS 80)) ∧ Below w.heap.size w w' := row_any 80 w (by decide)
theorem pce81 : pce (rowS 81) 1 = ⟨#[80]⟩ := by decide +kernel
theorem pce80 : pce (rowS 81) 0 = rowS 80 := by decide +kernel
theorem cat81 : cat [rowS 80, ⟨#[80]⟩] = rowS 81 := by decide +kernel
theorem cut81 (w : World) : Calls Try.prog 11 #[.string (rowS 81), .int .i64 1] w fun e w' => e = .returned (.tuple #[.string ⟨#[80]⟩, .int .i64 0]) ∧ Below w.heap.size w w' := by
  have h := cut_yes (rowS 81) 1 w (by rw [rowS_size]; decide) (by rw [rowS_size]; decide)
  rw [pce81] at h
  exact h
theorem cut0 (w : World) : Calls Try.prog 11 #[.string ⟨#[]⟩, .int .i64 0] w fun e w' => e = .returned (.tuple #[.string ⟨#[]⟩, .int .i64 100]) ∧ Below w.heap.size w w' :=
  cut_no ⟨#[]⟩ 0 w (by decide) (by decide) (by decide)
theorem of81 (w : World) : Calls Try.prog 9 #[.string (rowS 81)] w fun e w' => ∃ A c, e = .returned (.tuple #[.agg #[.int .i64 81, .slice A 2 c], .int .i64 0]) ∧ RdV w' A 2 (ivs (sms (rowS 81))) ∧ Below w.heap.size w w' :=
  (of_yes (rowS 81) w (by rw [rowS_size]; decide)).mono fun e w' ⟨A, c, h1, _, h2, h3⟩ => by
    rw [rowS_size] at h1 h2
    exact ⟨A, c, h1, h2, h3⟩
theorem of0 (w : World) : Calls Try.prog 9 #[.string ⟨#[]⟩] w fun e w' => ∃ A c, e = .returned (.tuple #[.agg #[.int .i64 0, .slice A 0 c], .int .i64 0]) ∧ Below w.heap.size w w' :=
  (of_yes ⟨#[]⟩ w (by decide)).mono fun e w' ⟨A, c, h1, _, _, h3⟩ => ⟨A, c, h1, h3⟩
set_option maxRecDepth 20000 in
set_option maxHeartbeats 2000000 in
theorem cuts_holds (w : World) : Calls Try.prog 14 #[] w (Holds w) := by
  go_enter Try.func14, Try.ntmps14
  go_wp2_with fail
  refine (row81 w).mono ?_
  rintro e w1 ⟨rfl, b1⟩
  go_wp2_with fail
  refine (of81 w1).mono ?_
  rintro e w2 ⟨A, c, rfl, r2, b2⟩
  have B2 := b1.trans (b2.mono b1.size)
  have K2 := Whole.new w2 #[.int .i64 81, .slice A 2 c] 24
  have B3 := B2.alloc B2.size (.cells #[.int .i64 81, .slice A 2 c] 24)
  have r3 := r2.below ((Below.refl w2.heap.size w2).alloc (Nat.le_refl _) (.cells #[.int .i64 81, .slice A 2 c] 24))
  have H3 := Lib.hid (And.intro K2 (And.intro B3 r3))
  clear b1 b2 B2 K2 B3 r2 r3
  go_wp2_with fail
  generalize w2.alloc (.cells _ 24) = W3 at H3 ⊢
  refine (row81 W3).mono ?_
  rintro e w4 ⟨rfl, b4⟩
  go_wp2_with fail
  refine (cut81 w4).mono ?_
  rintro e w5 ⟨rfl, b5⟩
  go_wp2_with fail
  refine (cut0 w5).mono ?_
  rintro e w6 ⟨rfl, b6⟩
  go_wp2_with fail
  refine (of0 w6).mono ?_
  rintro e w7 ⟨A7, c7, rfl, b7⟩
  have B7 := ((b4.trans (b5.mono b4.size)).trans (b6.mono (Nat.le_trans b4.size b5.size))).trans (b7.mono (Nat.le_trans (Nat.le_trans b4.size b5.size) b6.size))
  obtain ⟨K3, B3, r3⟩ := H3.out
  have K7 := Whole.new w7 #[.int .i64 0, .slice A7 0 c7] 24
  have B8 := B7.alloc B7.size (.cells #[.int .i64 0, .slice A7 0 c7] 24)
  have K8 := K3.below B8
  have r8 := r3.below B8
  have BB := B3.trans (B8.mono B3.size)
  have HH := Lib.hid (And.intro K7 (And.intro K8 (And.intro r8 BB)))
  clear b4 b5 b6 b7 B7 K3 B3 r3 K7 B8 K8 r8 BB H3
  go_upto_region 5 with (fail)
  generalize w7.alloc (.cells _ 24) = W8 at HH ⊢
  obtain ⟨K7, K8, r8, BB⟩ := HH.out
  have c0 := K8.cell 0
  have c1 := K8.cell 1
  simp only [List.getElem?_cons_succ, List.getElem?_cons_zero] at c0 c1
  have hC := check_yes 81 A 2 c _ W8 r8 (by decide) (by have := right_sms (s := rowS 81) (by rw [rowS_size]; decide); rwa [rowS_size] at this)
  clear K7 K8 r8 BB
  go_wp2_with (go_at_call 15; refine hC.mono ?_; rintro e w9 ⟨rfl, b9⟩; have d0 := (HH.out.1.below b9).cell 0; have d1 := (HH.out.1.below b9).cell 1; simp only [List.getElem?_cons_succ, List.getElem?_cons_zero] at d0 d1)
  go_ret
  exact ⟨rfl, HH.out.2.2.2.trans (b9.mono HH.out.2.2.2.size)⟩
end Go.Proofs.Ytjncmfjikoepgaa

/-
  The statements' own helper joins: it says true.
-/
import Derived.Test.YtjncmfjikoepgaaChCu
namespace Go.Proofs.Ytjncmfjikoepgaa
open Go.RowKit

theorem join_yes (n : Int) (A A2 : Option Addr) (k c k2 c2 : Nat) (z : List Int) (ps : List ByteArray) (w : World) (hr : RdV w A k (ivs z)) (hk : k ≤ 1000000000) (hp : RdV w A2 k2 (tvs ps)) (hk2 : k2 ≤ 1000000000) (h : JoinOk n z ps) :
    Calls Try.prog 19 #[.agg #[.int .i64 n, .slice A k c], .slice A2 k2 c2] w fun e w' => e = .returned (.tuple #[.string (cat ps), .int .i64 0]) ∧ Below w.heap.size w w' :=
  (join_any n A A2 k c k2 c2 z ps w hr hk hp hk2).mono fun e w' ⟨h1, h2⟩ => by
    rcases h1 with ⟨_, q⟩ | ⟨q, _⟩
    · exact ⟨q, h2⟩
    · exact absurd h q
theorem join_no (n : Int) (A A2 : Option Addr) (k c k2 c2 : Nat) (z : List Int) (ps : List ByteArray) (w : World) (hr : RdV w A k (ivs z)) (hk : k ≤ 1000000000) (hp : RdV w A2 k2 (tvs ps)) (hk2 : k2 ≤ 1000000000) (h : ¬ JoinOk n z ps) :
    Calls Try.prog 19 #[.agg #[.int .i64 n, .slice A k c], .slice A2 k2 c2] w fun e w' => e = .returned (.tuple #[.string ⟨#[]⟩, .int .i64 100]) ∧ Below w.heap.size w w' :=
  (join_any n A A2 k c k2 c2 z ps w hr hk hp hk2).mono fun e w' ⟨h1, h2⟩ => by
    rcases h1 with ⟨q, _⟩ | ⟨_, q⟩
    · exact absurd q h
    · exact ⟨q, h2⟩
/-- The pieces of a text, all of them. -/
def pcs (s : ByteArray) (k : Nat) : List ByteArray := (List.range k).map (pce s)
theorem pcs_length (s : ByteArray) (k : Nat) : (pcs s k).length = k := by simp [pcs]
theorem pcs_succ (s : ByteArray) (k : Nat) : pcs s (k + 1) = pcs s k ++ [pce s k] := by simp [pcs, List.range_succ]
theorem join_pcs {s : ByteArray} (hs : s.size ≤ 65536) : JoinOk s.size (sms s) (pcs s (cnt s.size)) :=
  ⟨right_sms hs, by rw [pcs_length, sms_length], fun r p h => by
    have hr : r < cnt s.size := by
      have := (List.getElem?_eq_some_iff.1 h).1
      rwa [pcs_length] at this
    have hp : p = pce s r := by
      simp [pcs, hr] at h
      exact h.symm
    rw [hp, Int.toNat_natCast]
    exact fit_pce hr⟩
theorem pcs81 : pcs (rowS 81) 2 = [rowS 80, ⟨#[80]⟩] := by
  rw [show (2 : Nat) = 1 + 1 from rfl, pcs_succ, pcs_succ, pce81, pce80]
  rfl
theorem join81 (A : Option Addr) (c : Nat) (X : World) (hr : RdV X A 2 (ivs (sms (rowS 81)))) :
    Calls Try.prog 19 #[.agg #[.int .i64 81, .slice A 2 c], .slice (some ⟨X.heap.size, 0, none⟩) 2 2] (X.alloc (.cells #[.string (rowS 80), .string ⟨#[80]⟩] 9)) fun e w' => e = .returned (.tuple #[.string (rowS 81), .int .i64 0]) ∧ Below X.heap.size X w' := by
  have hb : Below X.heap.size X (X.alloc (.cells #[.string (rowS 80), .string ⟨#[80]⟩] 9)) := (Below.refl _ _).alloc (Nat.le_refl _) _
  have hp := (Whole.new X #[.string (rowS 80), .string ⟨#[80]⟩] 9).rd
  have hj := join_pcs (s := rowS 81) (by rw [rowS_size]; decide)
  rw [rowS_size, show cnt 81 = 2 from rfl, pcs81] at hj
  have h := join_yes 81 A _ 2 c 2 2 (sms (rowS 81)) [rowS 80, ⟨#[80]⟩] _ (hr.below hb) (by decide) hp (by decide) hj
  rw [cat81] at h
  exact h.mono fun e w' ⟨h1, h2⟩ => ⟨h1, hb.trans (h2.mono hb.size)⟩
theorem join80 (A : Option Addr) (c : Nat) (X : World) (hr : RdV X A 2 (ivs (sms (rowS 81)))) :
    Calls Try.prog 19 #[.agg #[.int .i64 81, .slice A 2 c], .slice (some ⟨X.heap.size, 0, none⟩) 1 1] (X.alloc (.cells #[.string (rowS 80)] 9)) fun e w' => e = .returned (.tuple #[.string ⟨#[]⟩, .int .i64 100]) ∧ Below X.heap.size X w' := by
  have hb : Below X.heap.size X (X.alloc (.cells #[.string (rowS 80)] 9)) := (Below.refl _ _).alloc (Nat.le_refl _) _
  have hp := (Whole.new X #[.string (rowS 80)] 9).rd
  have h := join_no 81 A _ 2 c 1 1 (sms (rowS 81)) [rowS 80] _ (hr.below hb) (by decide) hp (by decide) (fun h => by
    have := h.2.1
    rw [sms_length, rowS_size] at this
    exact absurd this (by decide))
  exact h.mono fun e w' ⟨h1, h2⟩ => ⟨h1, hb.trans (h2.mono hb.size)⟩
theorem join0 (w : World) : Calls Try.prog 19 #[.agg #[.int .i64 0, .slice none 0 0], .slice none 0 0] w fun e w' => e = .returned (.tuple #[.string ⟨#[]⟩, .int .i64 0]) ∧ Below w.heap.size w w' :=
  join_yes 0 none none 0 0 0 0 [] [] w RdV.nil (by decide) RdV.nil (by decide) ⟨by decide, rfl, fun r p h => by simp at h⟩
set_option maxRecDepth 20000 in
set_option maxHeartbeats 2000000 in
theorem joins_holds (w : World) : Calls Try.prog 21 #[] w (Holds w) := by
  go_enter Try.func21, Try.ntmps21
  go_wp2_with fail
  refine (row81 w).mono ?_
  rintro e w1 ⟨rfl, b1⟩
  go_wp2_with fail
  refine (of81 w1).mono ?_
  rintro e w2 ⟨A, c, rfl, r2, b2⟩
  have B2 := b1.trans (b2.mono b1.size)
  have K2 := Whole.new w2 #[.int .i64 81, .slice A 2 c] 24
  have B3 := B2.alloc B2.size (.cells #[.int .i64 81, .slice A 2 c] 24)
  have r3 := r2.below ((Below.refl w2.heap.size w2).alloc (Nat.le_refl _) (.cells #[.int .i64 81, .slice A 2 c] 24))
  have H3 := Lib.hid (And.intro K2 (And.intro B3 r3))
  clear b1 b2 B2 K2 B3 r2 r3
  go_upto_region 2 with (fail)
  obtain ⟨g, hg⟩ : ∃ g, g = w2.heap.size := ⟨_, rfl⟩
  rw [← hg] at H3 ⊢
  clear hg
  generalize w2.alloc (.cells _ 24) = W at H3 ⊢
  have HK : Hid (∀ V, Below W.heap.size W V → V.cell? ⟨g, 0, none⟩ = some (.int .i64 81) ∧ V.cell? ⟨g, 1, none⟩ = some (.slice A 2 c)) := Lib.hid fun V hV => by
    have k := H3.out.1.below hV
    have k0 := k.cell 0
    have k1 := k.cell 1
    simp only [List.getElem?_cons_succ, List.getElem?_cons_zero] at k0 k1
    exact ⟨k0, k1⟩
  have HJ : Hid (∀ V, Below W.heap.size W V → Calls Try.prog 19 #[.agg #[.int .i64 81, .slice A 2 c], .slice (some ⟨V.heap.size, 0, none⟩) 2 2] (V.alloc (.cells #[.string (rowS 80), .string ⟨#[80]⟩] 9)) fun e w' => e = .returned (.tuple #[.string (rowS 81), .int .i64 0]) ∧ Hid (Below W.heap.size W w')) := Lib.hid fun V hV =>
    (join81 A c V (H3.out.2.2.below hV)).mono fun e w' ⟨h1, h2⟩ => ⟨h1, Lib.hid (hV.trans (h2.mono hV.size))⟩
  have HJ2 : Hid (∀ V, Below W.heap.size W V → Calls Try.prog 19 #[.agg #[.int .i64 81, .slice A 2 c], .slice (some ⟨V.heap.size, 0, none⟩) 1 1] (V.alloc (.cells #[.string (rowS 80)] 9)) fun e w' => e = .returned (.tuple #[.string ⟨#[]⟩, .int .i64 100]) ∧ Hid (Below W.heap.size W w')) := Lib.hid fun V hV =>
    (join80 A c V (H3.out.2.2.below hV)).mono fun e w' ⟨h1, h2⟩ => ⟨h1, Lib.hid (hV.trans (h2.mono hV.size))⟩
  have HB : Hid (Below w.heap.size w W) := Lib.hid H3.out.2.1
  clear H3
  obtain ⟨d0, d1⟩ := HK.out W.drew (Below.refl _ _).drew
  go_cut [3, 4] (fun a b wc => a = .string (rowS 81) ∧ b = .int .i64 0 ∧ Hid (Below W.heap.size W wc))
  case first =>
    go_region_with (first | (go_at_call 30; refine (row80 _).mono ?_; rintro e w4 ⟨rfl, b4⟩; have B4 : Below W.heap.size W w4 := (Below.refl _ _).drew.trans b4; obtain ⟨y0, y1⟩ := HK.out w4 B4; obtain ⟨z0, z1⟩ := HK.out (w4.alloc (.cells #[.string (rowS 80), .string ⟨#[80]⟩] 9)) (B4.alloc B4.size _)) | (go_at_call 19; refine (HJ.out _ B4).mono ?_; rintro e w5 ⟨rfl, b5⟩))
    all_goals (
      go_wp2_with fail
      go_meet
      exact ⟨rfl, rfl, b5⟩)
  case rest =>
    obtain ⟨rfl, rfl, bc⟩ := hcut
    clear d0 d1
    go_upto_region 3 with (fail)
    obtain ⟨W3, hW3⟩ : ∃ W3, W3 = wc := ⟨_, rfl⟩
    subst hW3
    obtain ⟨d0, d1⟩ := HK.out W3.drew (bc.out.trans ((Below.refl _ _).drew.mono bc.out.size))
    go_cut [5, 6] (fun a b wc => a = .string ⟨#[]⟩ ∧ b = .int .i64 100 ∧ Hid (Below W.heap.size W wc))
    case first =>
      go_region_with (first | (go_at_call 30; refine (row80 _).mono ?_; rintro e w4 ⟨rfl, b4⟩; have B4 : Below W.heap.size W w4 := bc.out.trans (((Below.refl _ _).drew.trans b4).mono bc.out.size); obtain ⟨y0, y1⟩ := HK.out w4 B4; obtain ⟨z0, z1⟩ := HK.out (w4.alloc (.cells #[.string (rowS 80)] 9)) (B4.alloc B4.size _)) | (go_at_call 19; refine (HJ2.out _ B4).mono ?_; rintro e w5 ⟨rfl, b5⟩))
      all_goals (
        go_wp2_with fail
        go_meet
        exact ⟨rfl, rfl, b5⟩)
    case rest =>
      obtain ⟨rfl, rfl, bc2⟩ := hcut
      clear d0 d1 HK HJ HJ2
      go_wp2_with fail
      refine (join0 _).mono ?_
      rintro e w6 ⟨rfl, b6⟩
      go_wp2_with (go_at_call 30; refine (row81 _).mono ?_; rintro e w7 ⟨rfl, b7⟩)
      go_ret
      have q1 := bc2.out.trans ((b6.trans (b7.mono b6.size)).mono bc2.out.size)
      exact ⟨rfl, HB.out.trans (q1.mono HB.out.size)⟩
end Go.Proofs.Ytjncmfjikoepgaa

/-
  The chapter's examples, and the walk of the law BuddyChecks: it says true, whatever came in, and nothing that was there is written over.
-/
import Derived.Test.YthiijnanfiddpaaDoorBudR4
namespace Go.Proofs.YthiijnanfiddpaaDoor
open Go.RowKit

theorem OwnB.rd {U : TypeId} {w : World} {base : Nat} {v : Value} {l : List Blk} (h : OwnB U w base v l) : ∃ A c, v = .slice A l.length c ∧ RdS w A l.length l := by
  obtain ⟨A, c, hv, _, _, r, _⟩ := h.shape rfl
  exact ⟨A, c, hv, r⟩
theorem OwnB.rdn {U : TypeId} {w : World} {base n : Nat} {v : Value} {l : List Blk} (h : OwnB U w base v l) (hn : l.length = n) : ∃ A c, v = .slice A n c ∧ RdS w A n l := by
  subst hn
  exact h.rd
theorem rd_two (w : World) (a b : Blk) (t : TypeId) : RdS (w.alloc (.cells #[.int .i64 a.1, .int .i64 a.2, .int .i64 b.1, .int .i64 b.2] t)) (some ⟨w.heap.size, 0, none⟩) 2 [a, b] :=
  ⟨rfl, fun _ => ⟨w.heap.size, 0, rfl, by simp, fun j x hx => by
    have hw := Whole.new w #[.int .i64 a.1, .int .i64 a.2, .int .i64 b.1, .int .i64 b.2] t
    match j, hx with
    | 0, hx => simp at hx; subst hx; exact ⟨by rw [hw.cell]; rfl, by rw [hw.cell]; rfl⟩
    | 1, hx => simp at hx; subst hx; exact ⟨by rw [hw.cell]; rfl, by rw [hw.cell]; rfl⟩
    | j + 2, hx => simp at hx⟩⟩
set_option maxRecDepth 100000 in
set_option maxHeartbeats 2000000 in
theorem all_law (w : World) (hT : Tab w) : Calls Tryd.prog 18 #[] w (Holds w) := by
  have S1 := all_any 3 w
  rw [show allL 3 = [(0, 3)] by decide, show allE 3 = 0 by decide] at S1
  have S2 := fun W => all_any 9 W
  rw [show allL 9 = [] by decide, show allE 9 = 1 by decide] at S2
  have q := run_eql_blk 0 3 0 3
  rw [show sameB (0, 3) (0, 3) = true by decide] at q
  have hm := noGuard
  go_enter Tryd.func18, Tryd.ntmps18
  go_wp2_with fail
  refine S1.mono ?_
  rintro e w1 ⟨v, rfl, ho, b1⟩
  obtain ⟨A, c, rfl, hr⟩ := ho.rdn (n := 1) rfl
  go_wp2_with fail
  refine (S2 w1).mono ?_
  rintro e w2 ⟨v2, rfl, _, b2⟩
  have hr2 := hr.below b2
  have b12 := b1.trans (b2.mono b1.size)
  obtain ⟨g, off, x, rfl, hg, hx, c0, c1⟩ := hr2.cell (j := 0) (by omega)
  simp at hx
  subst hx
  simp only [Nat.zero_mul, Nat.add_zero] at c0 c1
  have C1 := check_any 3 (some ⟨g, off, none⟩) 1 c [(0, 3)] w2 hr2 (by omega) (hT.below b12)
  rw [show chkE 3 [(0, 3)] = 0 by decide +kernel] at C1
  have C2 := fun (W : World) (b : Below w2.heap.size w2 W) => check_any 3 (some ⟨W.heap.size, 0, none⟩) 2 2 [(0, 2), (4, 2)] _ (rd_two W (0, 2) (4, 2) 32) (by omega) ((hT.below (b12.trans (b.mono b12.size))).below ((Below.refl _ _).alloc (Nat.le_refl _) _))
  rw [show chkE 3 [(0, 2), (4, 2)] = 1 by decide +kernel] at C2
  have R1 := fun (W : World) (b : Below w2.heap.size w2 W) => room_any 3 (some ⟨g, off, none⟩) 1 c [(0, 3)] 3 W (hr2.below b) (by omega) (hT.below (b12.trans (b.mono b12.size)))
  rw [show (mayTk 3 [(0, 3)] 3 && roomB [(0, 3)] 3) = true by decide +kernel] at R1
  have R2 := fun (W : World) (b : Below w2.heap.size w2 W) => room_any 3 none 0 0 [] 0 W RdS.nil (by omega) (hT.below (b12.trans (b.mono b12.size)))
  rw [show (mayTk 3 [] 0 && roomB [] 0) = false by decide +kernel] at R2
  have W1 := fun W => words_any 3 W
  rw [show wordsI 3 = 8 by decide] at W1
  simp only at C2
  go_wp2_with (first | (go_at_call_of 12 g; refine C1.mono ?_; rintro e w3 ⟨rfl, b3⟩) | (go_at_call 12; refine (C2 w3 b3).mono ?_; rintro e w4 ⟨rfl, b4⟩; have b34 := b3.trans ((((Below.refl w3.heap.size w3).alloc (Nat.le_refl _) _).trans (b4.mono (by simp))).mono b3.size)) | (go_at_call 19; refine (W1 _).mono ?_; rintro e w5 ⟨rfl, rfl⟩) | (go_at_call_of 20 g; refine (R1 w4 b34).mono ?_; rintro e w6 ⟨rfl, b6⟩) | (go_at_call 20; refine (R2 w6 (b34.trans (b6.mono b34.size))).mono ?_; rintro e w7 ⟨rfl, b7⟩))
  go_ret
  exact ⟨rfl, b12.trans (((b34.trans (b6.mono b34.size)).trans (b7.mono (Nat.le_trans b34.size b6.size))).mono b12.size)⟩

/-- A row that came in, or one of the call's own: neither is written over. -/
theorem Holds.pre {w w1 : World} {e : Ending} {w' : World} (b : Below w.heap.size w w1) (h : Holds w1 e w') : Holds w e w' := ⟨h.1, b.trans (h.2.mono b.size)⟩
end Go.Proofs.YthiijnanfiddpaaDoor

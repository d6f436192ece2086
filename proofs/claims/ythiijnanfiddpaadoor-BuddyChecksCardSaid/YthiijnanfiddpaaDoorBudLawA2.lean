/-
  The walk of the law BuddyChecks: it says true, whatever came in, and nothing that was there is written over.
-/
import Derived.Test.YthiijnanfiddpaaDoorBudLawA
namespace Go.Proofs.YthiijnanfiddpaaDoor
open Go.RowKit

theorem BestI.room {l : List Blk} {t a : Int} {n : Nat} (h : BestI l t l.length a) (_hn : l.length = n) : roomB l t = true ↔ 0 ≤ a := by
  unfold roomB
  rw [List.any_eq_true]
  constructor
  · rintro ⟨b, hb, ht⟩
    obtain ⟨j, hj, rfl⟩ := List.mem_iff_getElem.1 hb
    rcases h with ⟨_, h⟩ | ⟨p, e, _⟩
    · have := h j hj
      have e1 : nth l j = l[j] := by have := nth_get hj; rw [List.getElem?_eq_getElem hj] at this; exact (Option.some.inj this).symm
      rw [e1] at this
      have := of_decide_eq_true ht
      omega
    · omega
  · intro ha
    rcases h with ⟨e, _⟩ | ⟨p, e, h1, h2, _⟩
    · omega
    · exact ⟨nth l p, nth_mem h1, decide_eq_true h2⟩
theorem BestI.noroom {l : List Blk} {t a : Int} {n : Nat} (h : BestI l t l.length a) (hn : l.length = n) : roomB l t = false ↔ a < 0 := by
  rw [← Bool.not_eq_true, h.room hn]
  omega

set_option maxRecDepth 100000 in
set_option maxHeartbeats 8000000 in
theorem buddyChecks_walk (r t : Int) (A : Option Addr) (m c : Nat) (l : List Blk) (w : World) (hT : Tab w) (h : RdS w A m l) :
    Calls Tryd.prog 3 #[.int .i64 r, .int .i64 t, .slice A m c] w (Holds w) := by
  by_cases hm : 600 < m
  · go_enter Tryd.func3, Tryd.ntmps3
    go_wp2
    go_ret
    exact ⟨rfl, Below.refl _ _⟩
  have t0 : decide (600 < (m : Int)) = false := by simp; omega
  have hlen := h.len
  have SA := fun W => all_any r W
  have SC := fun (W : World) (b : Below w.heap.size w W) => check_any r A m c l W (h.below b) (by omega) (hT.below b)
  have SR := fun (W : World) A1 c1 (k : RdS W A1 m l) => refRight_any r A1 m c1 l W k (by omega)
  have SG := fun W => refRegion_any r W
  have SW := fun W => words_any t W
  have SM := fun (W : World) (b : Below w.heap.size w W) => room_any r A m c l t W (h.below b) (by omega) (hT.below b)
  go_enter Tryd.func3, Tryd.ntmps3
  by_cases hR : Right r l
  · have hr := hR.1
    rw [chkE_yes hR] at SC
    rw [decide_eq_true hR] at SR
    rw [show allL r = [(0, r)] from if_pos hr, show allE r = 0 from if_pos hr] at SA
    rw [decide_eq_true hr] at SG
    have hr8 := hr.2
    by_cases ht0 : t < 0
    · rw [show wordsI t = 0 from if_neg (by omega)] at SW
      have k1 : decide (0 ≤ t) = false := by simp; omega
      rw [show mayTk r l t = false by unfold mayTk; rw [decide_eq_false (show ¬ 0 ≤ t by omega)]; simp, Bool.false_and] at SM
      go_wp2_with (first | (go_at_call 10; refine (refOwn_any A m c l w h (by omega)).mono ?_; rintro e w1 ⟨v1, rfl, o1, B1⟩; obtain ⟨A1, c1, rfl, r1⟩ := o1.rdn hlen) | (go_at_call 11; refine (SA w1).mono ?_; rintro e w2 ⟨v2, rfl, o2, b2⟩; have B2 := B1.trans (b2.mono B1.size); have r12 := r1.below b2; obtain ⟨A2, c2, rfl, r2⟩ := o2.rdn (n := 1) rfl) | (go_at_call 12; refine (SC w2 B2).mono ?_; rintro e w3 ⟨rfl, b3⟩; have B3 := B2.trans (b3.mono B2.size); have r13 := r12.below b3; have r23 := r2.below b3) | (go_at_call 13; refine (SR w3 A1 c1 r13).mono ?_; rintro e w4 ⟨rfl, g4⟩; have B4 := B3.trans (g4.below.mono B3.size); have r14 := r13.below g4.below; have r24 := r23.below g4.below) | (go_at_call 14; refine (SG _).mono ?_; rintro e w5 ⟨rfl, rfl⟩) | (go_at_call_of 15 A2; refine (refSame_any A2 (some ⟨w4.heap.size, 0, none⟩) 1 c2 1 1 [(0, r)] [(0, r)] _ (r24.below ((Below.refl _ _).alloc (Nat.le_refl _) _)) (RdS.one w4 (0, r) #[.int .i64 0, .int .i64 r] rfl) (by omega)).mono ?_; rintro e w6 ⟨rfl, g6⟩; have b46 := ((Below.refl w4.heap.size w4).alloc (Nat.le_refl _) (.cells #[.int .i64 0, .int .i64 r] 32)).trans (g6.below.mono (by simp)); have B6 := B4.trans (b46.mono B4.size); have r16 := r14.below b46) | (go_at_call 18; refine (all_law w6 (hT.below B6)).mono ?_; rintro e w9 ⟨rfl, b9⟩; have B9 := B6.trans (b9.mono B6.size); have r19 := r16.below b9) | (go_at_call 19; refine (SW _).mono ?_; rintro e w10 ⟨rfl, rfl⟩) | (go_at_call 20; refine (SM w9 B9).mono ?_; rintro e w11 ⟨rfl, b11⟩; have B11 := B9.trans (b11.mono B9.size); have r111 := r19.below b11) | (go_at_call 15; refine (refSame_any A A1 m c m c1 l l _ (h.below B11) r111 (by omega)).mono ?_; rintro e w12 ⟨rfl, g12⟩))
      go_ret
      exact ⟨by first | (simp; done) | (simp; omega), B11.trans (g12.below.mono B11.size)⟩
    by_cases ht8 : 8 < t
    · rw [show wordsI t = 0 from if_neg (by omega)] at SW
      have k1 : decide (0 ≤ t) = true := by simp; omega
      have k2 : decide (t ≤ 8) = false := by simp; omega
      rw [show mayTk r l t = false by unfold mayTk; rw [decide_eq_false (show ¬ t ≤ r by omega)]; simp, Bool.false_and] at SM
      have k3 : decide (t ≤ r) = false := by simp; omega
      go_wp2_with (first | (go_at_call 10; refine (refOwn_any A m c l w h (by omega)).mono ?_; rintro e w1 ⟨v1, rfl, o1, B1⟩; obtain ⟨A1, c1, rfl, r1⟩ := o1.rdn hlen) | (go_at_call 11; refine (SA w1).mono ?_; rintro e w2 ⟨v2, rfl, o2, b2⟩; have B2 := B1.trans (b2.mono B1.size); have r12 := r1.below b2; obtain ⟨A2, c2, rfl, r2⟩ := o2.rdn (n := 1) rfl) | (go_at_call 12; refine (SC w2 B2).mono ?_; rintro e w3 ⟨rfl, b3⟩; have B3 := B2.trans (b3.mono B2.size); have r13 := r12.below b3; have r23 := r2.below b3) | (go_at_call 13; refine (SR w3 A1 c1 r13).mono ?_; rintro e w4 ⟨rfl, g4⟩; have B4 := B3.trans (g4.below.mono B3.size); have r14 := r13.below g4.below; have r24 := r23.below g4.below) | (go_at_call 14; refine (SG _).mono ?_; rintro e w5 ⟨rfl, rfl⟩) | (go_at_call_of 15 A2; refine (refSame_any A2 (some ⟨w4.heap.size, 0, none⟩) 1 c2 1 1 [(0, r)] [(0, r)] _ (r24.below ((Below.refl _ _).alloc (Nat.le_refl _) _)) (RdS.one w4 (0, r) #[.int .i64 0, .int .i64 r] rfl) (by omega)).mono ?_; rintro e w6 ⟨rfl, g6⟩; have b46 := ((Below.refl w4.heap.size w4).alloc (Nat.le_refl _) (.cells #[.int .i64 0, .int .i64 r] 32)).trans (g6.below.mono (by simp)); have B6 := B4.trans (b46.mono B4.size); have r16 := r14.below b46) | (go_at_call 18; refine (all_law w6 (hT.below B6)).mono ?_; rintro e w9 ⟨rfl, b9⟩; have B9 := B6.trans (b9.mono B6.size); have r19 := r16.below b9) | (go_at_call 19; refine (SW _).mono ?_; rintro e w10 ⟨rfl, rfl⟩) | (go_at_call 20; refine (SM w9 B9).mono ?_; rintro e w11 ⟨rfl, b11⟩; have B11 := B9.trans (b11.mono B9.size); have r111 := r19.below b11) | (go_at_call 15; refine (refSame_any A A1 m c m c1 l l _ (h.below B11) r111 (by omega)).mono ?_; rintro e w12 ⟨rfl, g12⟩))
      go_ret
      exact ⟨by first | (simp; done) | (simp; omega), B11.trans (g12.below.mono B11.size)⟩
    rw [wordsI_in (show 0 ≤ t by omega) (show t ≤ 8 by omega)] at SW
    have k1 : decide (0 ≤ t) = true := by simp; omega
    have k2 : decide (t ≤ 8) = true := by simp; omega
    have SZ := fun W => refSize_any t W (by omega) (by omega)
    obtain ⟨z, hz⟩ : ∃ z, z = sz t := ⟨_, rfl⟩
    rw [← hz] at SW SZ
    clear hz
    by_cases htr : t ≤ r
    · rw [show mayTk r l t = true by unfold mayTk; rw [decide_eq_true hR, decide_eq_true htr, decide_eq_true (show 0 ≤ t by omega)]; rfl, Bool.true_and] at SM
      have k3 : decide (t ≤ r) = true := by simp; omega
      cases hrm : roomB l t with
      | true =>
        rw [hrm] at SM
        go_wp2_with (first | (go_at_call 10; refine (refOwn_any A m c l w h (by omega)).mono ?_; rintro e w1 ⟨v1, rfl, o1, B1⟩; obtain ⟨A1, c1, rfl, r1⟩ := o1.rdn hlen) | (go_at_call 11; refine (SA w1).mono ?_; rintro e w2 ⟨v2, rfl, o2, b2⟩; have B2 := B1.trans (b2.mono B1.size); have r12 := r1.below b2; obtain ⟨A2, c2, rfl, r2⟩ := o2.rdn (n := 1) rfl) | (go_at_call 12; refine (SC w2 B2).mono ?_; rintro e w3 ⟨rfl, b3⟩; have B3 := B2.trans (b3.mono B2.size); have r13 := r12.below b3; have r23 := r2.below b3) | (go_at_call 13; refine (SR w3 A1 c1 r13).mono ?_; rintro e w4 ⟨rfl, g4⟩; have B4 := B3.trans (g4.below.mono B3.size); have r14 := r13.below g4.below; have r24 := r23.below g4.below) | (go_at_call 14; refine (SG _).mono ?_; rintro e w5 ⟨rfl, rfl⟩) | (go_at_call_of 15 A2; refine (refSame_any A2 (some ⟨w4.heap.size, 0, none⟩) 1 c2 1 1 [(0, r)] [(0, r)] _ (r24.below ((Below.refl _ _).alloc (Nat.le_refl _) _)) (RdS.one w4 (0, r) #[.int .i64 0, .int .i64 r] rfl) (by omega)).mono ?_; rintro e w6 ⟨rfl, g6⟩; have b46 := ((Below.refl w4.heap.size w4).alloc (Nat.le_refl _) (.cells #[.int .i64 0, .int .i64 r] 32)).trans (g6.below.mono (by simp)); have B6 := B4.trans (b46.mono B4.size); have r16 := r14.below b46) | (go_at_call 16; refine (SZ _).mono ?_; rintro e w7 ⟨rfl, rfl⟩) | (go_at_call 17; refine (refBest_any A1 m c1 l t w6 r16 (by omega)).mono ?_; rintro e w8 ⟨a, rfl, hb, g8⟩; have B8 := B6.trans (g8.below.mono B6.size); have r18 := r16.below g8.below; have hbr := (hb.room hlen).1 hrm; have Hb := Lib.hid hb; clear hb) | (go_at_call 18; refine (all_law w8 (hT.below B8)).mono ?_; rintro e w9 ⟨rfl, b9⟩; have B9 := B8.trans (b9.mono B8.size); have r19 := r18.below b9) | (go_at_call 19; refine (SW _).mono ?_; rintro e w10 ⟨rfl, rfl⟩) | (go_at_call 20; refine (SM w9 B9).mono ?_; rintro e w11 ⟨rfl, b11⟩; have B11 := B9.trans (b11.mono B9.size); have r111 := r19.below b11) | (go_at_call 15; refine (refSame_any A A1 m c m c1 l l _ (h.below B11) r111 (by omega)).mono ?_; rintro e w12 ⟨rfl, g12⟩))
        go_ret
        exact ⟨by first | (simp; done) | (simp; omega), B11.trans (g12.below.mono B11.size)⟩
      | false =>
        rw [hrm] at SM
        go_wp2_with (first | (go_at_call 10; refine (refOwn_any A m c l w h (by omega)).mono ?_; rintro e w1 ⟨v1, rfl, o1, B1⟩; obtain ⟨A1, c1, rfl, r1⟩ := o1.rdn hlen) | (go_at_call 11; refine (SA w1).mono ?_; rintro e w2 ⟨v2, rfl, o2, b2⟩; have B2 := B1.trans (b2.mono B1.size); have r12 := r1.below b2; obtain ⟨A2, c2, rfl, r2⟩ := o2.rdn (n := 1) rfl) | (go_at_call 12; refine (SC w2 B2).mono ?_; rintro e w3 ⟨rfl, b3⟩; have B3 := B2.trans (b3.mono B2.size); have r13 := r12.below b3; have r23 := r2.below b3) | (go_at_call 13; refine (SR w3 A1 c1 r13).mono ?_; rintro e w4 ⟨rfl, g4⟩; have B4 := B3.trans (g4.below.mono B3.size); have r14 := r13.below g4.below; have r24 := r23.below g4.below) | (go_at_call 14; refine (SG _).mono ?_; rintro e w5 ⟨rfl, rfl⟩) | (go_at_call_of 15 A2; refine (refSame_any A2 (some ⟨w4.heap.size, 0, none⟩) 1 c2 1 1 [(0, r)] [(0, r)] _ (r24.below ((Below.refl _ _).alloc (Nat.le_refl _) _)) (RdS.one w4 (0, r) #[.int .i64 0, .int .i64 r] rfl) (by omega)).mono ?_; rintro e w6 ⟨rfl, g6⟩; have b46 := ((Below.refl w4.heap.size w4).alloc (Nat.le_refl _) (.cells #[.int .i64 0, .int .i64 r] 32)).trans (g6.below.mono (by simp)); have B6 := B4.trans (b46.mono B4.size); have r16 := r14.below b46) | (go_at_call 16; refine (SZ _).mono ?_; rintro e w7 ⟨rfl, rfl⟩) | (go_at_call 17; refine (refBest_any A1 m c1 l t w6 r16 (by omega)).mono ?_; rintro e w8 ⟨a, rfl, hb, g8⟩; have B8 := B6.trans (g8.below.mono B6.size); have r18 := r16.below g8.below; have hbr := (hb.noroom hlen).1 hrm; have Hb := Lib.hid hb; clear hb) | (go_at_call 18; refine (all_law w8 (hT.below B8)).mono ?_; rintro e w9 ⟨rfl, b9⟩; have B9 := B8.trans (b9.mono B8.size); have r19 := r18.below b9) | (go_at_call 19; refine (SW _).mono ?_; rintro e w10 ⟨rfl, rfl⟩) | (go_at_call 20; refine (SM w9 B9).mono ?_; rintro e w11 ⟨rfl, b11⟩; have B11 := B9.trans (b11.mono B9.size); have r111 := r19.below b11) | (go_at_call 15; refine (refSame_any A A1 m c m c1 l l _ (h.below B11) r111 (by omega)).mono ?_; rintro e w12 ⟨rfl, g12⟩))
        go_ret
        exact ⟨by first | (simp; done) | (simp; omega), B11.trans (g12.below.mono B11.size)⟩
    rw [show mayTk r l t = false by unfold mayTk; rw [decide_eq_false htr]; simp, Bool.false_and] at SM
    have k3 : decide (t ≤ r) = false := by simp; omega
    go_wp2_with (first | (go_at_call 10; refine (refOwn_any A m c l w h (by omega)).mono ?_; rintro e w1 ⟨v1, rfl, o1, B1⟩; obtain ⟨A1, c1, rfl, r1⟩ := o1.rdn hlen) | (go_at_call 11; refine (SA w1).mono ?_; rintro e w2 ⟨v2, rfl, o2, b2⟩; have B2 := B1.trans (b2.mono B1.size); have r12 := r1.below b2; obtain ⟨A2, c2, rfl, r2⟩ := o2.rdn (n := 1) rfl) | (go_at_call 12; refine (SC w2 B2).mono ?_; rintro e w3 ⟨rfl, b3⟩; have B3 := B2.trans (b3.mono B2.size); have r13 := r12.below b3; have r23 := r2.below b3) | (go_at_call 13; refine (SR w3 A1 c1 r13).mono ?_; rintro e w4 ⟨rfl, g4⟩; have B4 := B3.trans (g4.below.mono B3.size); have r14 := r13.below g4.below; have r24 := r23.below g4.below) | (go_at_call 14; refine (SG _).mono ?_; rintro e w5 ⟨rfl, rfl⟩) | (go_at_call_of 15 A2; refine (refSame_any A2 (some ⟨w4.heap.size, 0, none⟩) 1 c2 1 1 [(0, r)] [(0, r)] _ (r24.below ((Below.refl _ _).alloc (Nat.le_refl _) _)) (RdS.one w4 (0, r) #[.int .i64 0, .int .i64 r] rfl) (by omega)).mono ?_; rintro e w6 ⟨rfl, g6⟩; have b46 := ((Below.refl w4.heap.size w4).alloc (Nat.le_refl _) (.cells #[.int .i64 0, .int .i64 r] 32)).trans (g6.below.mono (by simp)); have B6 := B4.trans (b46.mono B4.size); have r16 := r14.below b46) | (go_at_call 16; refine (SZ _).mono ?_; rintro e w7 ⟨rfl, rfl⟩) | (go_at_call 18; refine (all_law w6 (hT.below B6)).mono ?_; rintro e w9 ⟨rfl, b9⟩; have B9 := B6.trans (b9.mono B6.size); have r19 := r16.below b9) | (go_at_call 19; refine (SW _).mono ?_; rintro e w10 ⟨rfl, rfl⟩) | (go_at_call 20; refine (SM w9 B9).mono ?_; rintro e w11 ⟨rfl, b11⟩; have B11 := B9.trans (b11.mono B9.size); have r111 := r19.below b11) | (go_at_call 15; refine (refSame_any A A1 m c m c1 l l _ (h.below B11) r111 (by omega)).mono ?_; rintro e w12 ⟨rfl, g12⟩))
    go_ret
    exact ⟨by first | (simp; done) | (simp; omega), B11.trans (g12.below.mono B11.size)⟩
  · rw [chkE_no hR] at SC
    rw [decide_eq_false hR] at SR
    rw [show mayTk r l t = false by unfold mayTk; rw [decide_eq_false hR]; rfl, Bool.false_and] at SM
    by_cases hr : 3 ≤ r ∧ r ≤ 8
    · rw [show allL r = [(0, r)] from if_pos hr, show allE r = 0 from if_pos hr] at SA
      rw [decide_eq_true hr] at SG
      by_cases ht0 : t < 0
      · rw [show wordsI t = 0 from if_neg (by omega)] at SW
        have k1 : decide (0 ≤ t) = false := by simp; omega
        go_wp2_with (first | (go_at_call 10; refine (refOwn_any A m c l w h (by omega)).mono ?_; rintro e w1 ⟨v1, rfl, o1, B1⟩; obtain ⟨A1, c1, rfl, r1⟩ := o1.rdn hlen) | (go_at_call 11; refine (SA w1).mono ?_; rintro e w2 ⟨v2, rfl, o2, b2⟩; have B2 := B1.trans (b2.mono B1.size); have r12 := r1.below b2; obtain ⟨A2, c2, rfl, r2⟩ := o2.rdn (n := 1) rfl) | (go_at_call 12; refine (SC w2 B2).mono ?_; rintro e w3 ⟨rfl, b3⟩; have B3 := B2.trans (b3.mono B2.size); have r13 := r12.below b3; have r23 := r2.below b3) | (go_at_call 13; refine (SR w3 A1 c1 r13).mono ?_; rintro e w4 ⟨rfl, g4⟩; have B4 := B3.trans (g4.below.mono B3.size); have r14 := r13.below g4.below; have r24 := r23.below g4.below) | (go_at_call 14; refine (SG _).mono ?_; rintro e w5 ⟨rfl, rfl⟩) | (go_at_call_of 15 A2; refine (refSame_any A2 (some ⟨w4.heap.size, 0, none⟩) 1 c2 1 1 [(0, r)] [(0, r)] _ (r24.below ((Below.refl _ _).alloc (Nat.le_refl _) _)) (RdS.one w4 (0, r) #[.int .i64 0, .int .i64 r] rfl) (by omega)).mono ?_; rintro e w6 ⟨rfl, g6⟩; have b46 := ((Below.refl w4.heap.size w4).alloc (Nat.le_refl _) (.cells #[.int .i64 0, .int .i64 r] 32)).trans (g6.below.mono (by simp)); have B6 := B4.trans (b46.mono B4.size); have r16 := r14.below b46) | (go_at_call 18; refine (all_law w6 (hT.below B6)).mono ?_; rintro e w9 ⟨rfl, b9⟩; have B9 := B6.trans (b9.mono B6.size); have r19 := r16.below b9) | (go_at_call 19; refine (SW _).mono ?_; rintro e w10 ⟨rfl, rfl⟩) | (go_at_call 20; refine (SM w9 B9).mono ?_; rintro e w11 ⟨rfl, b11⟩; have B11 := B9.trans (b11.mono B9.size); have r111 := r19.below b11) | (go_at_call 15; refine (refSame_any A A1 m c m c1 l l _ (h.below B11) r111 (by omega)).mono ?_; rintro e w12 ⟨rfl, g12⟩))
        go_ret
        exact ⟨by first | (simp; done) | (simp; omega), B11.trans (g12.below.mono B11.size)⟩
      by_cases ht8 : 8 < t
      · rw [show wordsI t = 0 from if_neg (by omega)] at SW
        have k1 : decide (0 ≤ t) = true := by simp; omega
        have k2 : decide (t ≤ 8) = false := by simp; omega
        go_wp2_with (first | (go_at_call 10; refine (refOwn_any A m c l w h (by omega)).mono ?_; rintro e w1 ⟨v1, rfl, o1, B1⟩; obtain ⟨A1, c1, rfl, r1⟩ := o1.rdn hlen) | (go_at_call 11; refine (SA w1).mono ?_; rintro e w2 ⟨v2, rfl, o2, b2⟩; have B2 := B1.trans (b2.mono B1.size); have r12 := r1.below b2; obtain ⟨A2, c2, rfl, r2⟩ := o2.rdn (n := 1) rfl) | (go_at_call 12; refine (SC w2 B2).mono ?_; rintro e w3 ⟨rfl, b3⟩; have B3 := B2.trans (b3.mono B2.size); have r13 := r12.below b3; have r23 := r2.below b3) | (go_at_call 13; refine (SR w3 A1 c1 r13).mono ?_; rintro e w4 ⟨rfl, g4⟩; have B4 := B3.trans (g4.below.mono B3.size); have r14 := r13.below g4.below; have r24 := r23.below g4.below) | (go_at_call 14; refine (SG _).mono ?_; rintro e w5 ⟨rfl, rfl⟩) | (go_at_call_of 15 A2; refine (refSame_any A2 (some ⟨w4.heap.size, 0, none⟩) 1 c2 1 1 [(0, r)] [(0, r)] _ (r24.below ((Below.refl _ _).alloc (Nat.le_refl _) _)) (RdS.one w4 (0, r) #[.int .i64 0, .int .i64 r] rfl) (by omega)).mono ?_; rintro e w6 ⟨rfl, g6⟩; have b46 := ((Below.refl w4.heap.size w4).alloc (Nat.le_refl _) (.cells #[.int .i64 0, .int .i64 r] 32)).trans (g6.below.mono (by simp)); have B6 := B4.trans (b46.mono B4.size); have r16 := r14.below b46) | (go_at_call 18; refine (all_law w6 (hT.below B6)).mono ?_; rintro e w9 ⟨rfl, b9⟩; have B9 := B6.trans (b9.mono B6.size); have r19 := r16.below b9) | (go_at_call 19; refine (SW _).mono ?_; rintro e w10 ⟨rfl, rfl⟩) | (go_at_call 20; refine (SM w9 B9).mono ?_; rintro e w11 ⟨rfl, b11⟩; have B11 := B9.trans (b11.mono B9.size); have r111 := r19.below b11) | (go_at_call 15; refine (refSame_any A A1 m c m c1 l l _ (h.below B11) r111 (by omega)).mono ?_; rintro e w12 ⟨rfl, g12⟩))
        go_ret
        exact ⟨by first | (simp; done) | (simp; omega), B11.trans (g12.below.mono B11.size)⟩
      rw [wordsI_in (show 0 ≤ t by omega) (show t ≤ 8 by omega)] at SW
      have k1 : decide (0 ≤ t) = true := by simp; omega
      have k2 : decide (t ≤ 8) = true := by simp; omega
      have SZ := fun W => refSize_any t W (by omega) (by omega)
      obtain ⟨z, hz⟩ : ∃ z, z = sz t := ⟨_, rfl⟩
      rw [← hz] at SW SZ
      clear hz
      go_wp2_with (first | (go_at_call 10; refine (refOwn_any A m c l w h (by omega)).mono ?_; rintro e w1 ⟨v1, rfl, o1, B1⟩; obtain ⟨A1, c1, rfl, r1⟩ := o1.rdn hlen) | (go_at_call 11; refine (SA w1).mono ?_; rintro e w2 ⟨v2, rfl, o2, b2⟩; have B2 := B1.trans (b2.mono B1.size); have r12 := r1.below b2; obtain ⟨A2, c2, rfl, r2⟩ := o2.rdn (n := 1) rfl) | (go_at_call 12; refine (SC w2 B2).mono ?_; rintro e w3 ⟨rfl, b3⟩; have B3 := B2.trans (b3.mono B2.size); have r13 := r12.below b3; have r23 := r2.below b3) | (go_at_call 13; refine (SR w3 A1 c1 r13).mono ?_; rintro e w4 ⟨rfl, g4⟩; have B4 := B3.trans (g4.below.mono B3.size); have r14 := r13.below g4.below; have r24 := r23.below g4.below) | (go_at_call 14; refine (SG _).mono ?_; rintro e w5 ⟨rfl, rfl⟩) | (go_at_call_of 15 A2; refine (refSame_any A2 (some ⟨w4.heap.size, 0, none⟩) 1 c2 1 1 [(0, r)] [(0, r)] _ (r24.below ((Below.refl _ _).alloc (Nat.le_refl _) _)) (RdS.one w4 (0, r) #[.int .i64 0, .int .i64 r] rfl) (by omega)).mono ?_; rintro e w6 ⟨rfl, g6⟩; have b46 := ((Below.refl w4.heap.size w4).alloc (Nat.le_refl _) (.cells #[.int .i64 0, .int .i64 r] 32)).trans (g6.below.mono (by simp)); have B6 := B4.trans (b46.mono B4.size); have r16 := r14.below b46) | (go_at_call 16; refine (SZ _).mono ?_; rintro e w7 ⟨rfl, rfl⟩) | (go_at_call 18; refine (all_law w6 (hT.below B6)).mono ?_; rintro e w9 ⟨rfl, b9⟩; have B9 := B6.trans (b9.mono B6.size); have r19 := r16.below b9) | (go_at_call 19; refine (SW _).mono ?_; rintro e w10 ⟨rfl, rfl⟩) | (go_at_call 20; refine (SM w9 B9).mono ?_; rintro e w11 ⟨rfl, b11⟩; have B11 := B9.trans (b11.mono B9.size); have r111 := r19.below b11) | (go_at_call 15; refine (refSame_any A A1 m c m c1 l l _ (h.below B11) r111 (by omega)).mono ?_; rintro e w12 ⟨rfl, g12⟩))
      go_ret
      exact ⟨by first | (simp; done) | (simp; omega), B11.trans (g12.below.mono B11.size)⟩
    · rw [show allL r = [] from if_neg hr, show allE r = 1 from if_neg hr] at SA
      rw [decide_eq_false hr] at SG
      by_cases ht0 : t < 0
      · rw [show wordsI t = 0 from if_neg (by omega)] at SW
        have k1 : decide (0 ≤ t) = false := by simp; omega
        go_wp2_with (first | (go_at_call 10; refine (refOwn_any A m c l w h (by omega)).mono ?_; rintro e w1 ⟨v1, rfl, o1, B1⟩; obtain ⟨A1, c1, rfl, r1⟩ := o1.rdn hlen) | (go_at_call 11; refine (SA w1).mono ?_; rintro e w2 ⟨v2, rfl, o2, b2⟩; have B2 := B1.trans (b2.mono B1.size); have r12 := r1.below b2; obtain ⟨A2, c2, rfl, r2⟩ := o2.rdn (n := 0) rfl) | (go_at_call 12; refine (SC w2 B2).mono ?_; rintro e w3 ⟨rfl, b3⟩; have B3 := B2.trans (b3.mono B2.size); have r13 := r12.below b3; have r23 := r2.below b3) | (go_at_call 13; refine (SR w3 A1 c1 r13).mono ?_; rintro e w4 ⟨rfl, g4⟩; have B4 := B3.trans (g4.below.mono B3.size); have r14 := r13.below g4.below; have r24 := r23.below g4.below) | (go_at_call 14; refine (SG _).mono ?_; rintro e w5 ⟨rfl, rfl⟩) | (go_at_call 18; refine (all_law w4 (hT.below B4)).mono ?_; rintro e w9 ⟨rfl, b9⟩; have B9 := B4.trans (b9.mono B4.size); have r19 := r14.below b9) | (go_at_call 19; refine (SW _).mono ?_; rintro e w10 ⟨rfl, rfl⟩) | (go_at_call 20; refine (SM w9 B9).mono ?_; rintro e w11 ⟨rfl, b11⟩; have B11 := B9.trans (b11.mono B9.size); have r111 := r19.below b11) | (go_at_call 15; refine (refSame_any A A1 m c m c1 l l _ (h.below B11) r111 (by omega)).mono ?_; rintro e w12 ⟨rfl, g12⟩))
        go_ret
        exact ⟨by first | (simp; done) | (simp; omega), B11.trans (g12.below.mono B11.size)⟩
      by_cases ht8 : 8 < t
      · rw [show wordsI t = 0 from if_neg (by omega)] at SW
        have k1 : decide (0 ≤ t) = true := by simp; omega
        have k2 : decide (t ≤ 8) = false := by simp; omega
        go_wp2_with (first | (go_at_call 10; refine (refOwn_any A m c l w h (by omega)).mono ?_; rintro e w1 ⟨v1, rfl, o1, B1⟩; obtain ⟨A1, c1, rfl, r1⟩ := o1.rdn hlen) | (go_at_call 11; refine (SA w1).mono ?_; rintro e w2 ⟨v2, rfl, o2, b2⟩; have B2 := B1.trans (b2.mono B1.size); have r12 := r1.below b2; obtain ⟨A2, c2, rfl, r2⟩ := o2.rdn (n := 0) rfl) | (go_at_call 12; refine (SC w2 B2).mono ?_; rintro e w3 ⟨rfl, b3⟩; have B3 := B2.trans (b3.mono B2.size); have r13 := r12.below b3; have r23 := r2.below b3) | (go_at_call 13; refine (SR w3 A1 c1 r13).mono ?_; rintro e w4 ⟨rfl, g4⟩; have B4 := B3.trans (g4.below.mono B3.size); have r14 := r13.below g4.below; have r24 := r23.below g4.below) | (go_at_call 14; refine (SG _).mono ?_; rintro e w5 ⟨rfl, rfl⟩) | (go_at_call 18; refine (all_law w4 (hT.below B4)).mono ?_; rintro e w9 ⟨rfl, b9⟩; have B9 := B4.trans (b9.mono B4.size); have r19 := r14.below b9) | (go_at_call 19; refine (SW _).mono ?_; rintro e w10 ⟨rfl, rfl⟩) | (go_at_call 20; refine (SM w9 B9).mono ?_; rintro e w11 ⟨rfl, b11⟩; have B11 := B9.trans (b11.mono B9.size); have r111 := r19.below b11) | (go_at_call 15; refine (refSame_any A A1 m c m c1 l l _ (h.below B11) r111 (by omega)).mono ?_; rintro e w12 ⟨rfl, g12⟩))
        go_ret
        exact ⟨by first | (simp; done) | (simp; omega), B11.trans (g12.below.mono B11.size)⟩
      rw [wordsI_in (show 0 ≤ t by omega) (show t ≤ 8 by omega)] at SW
      have k1 : decide (0 ≤ t) = true := by simp; omega
      have k2 : decide (t ≤ 8) = true := by simp; omega
      have SZ := fun W => refSize_any t W (by omega) (by omega)
      obtain ⟨z, hz⟩ : ∃ z, z = sz t := ⟨_, rfl⟩
      rw [← hz] at SW SZ
      clear hz
      go_wp2_with (first | (go_at_call 10; refine (refOwn_any A m c l w h (by omega)).mono ?_; rintro e w1 ⟨v1, rfl, o1, B1⟩; obtain ⟨A1, c1, rfl, r1⟩ := o1.rdn hlen) | (go_at_call 11; refine (SA w1).mono ?_; rintro e w2 ⟨v2, rfl, o2, b2⟩; have B2 := B1.trans (b2.mono B1.size); have r12 := r1.below b2; obtain ⟨A2, c2, rfl, r2⟩ := o2.rdn (n := 0) rfl) | (go_at_call 12; refine (SC w2 B2).mono ?_; rintro e w3 ⟨rfl, b3⟩; have B3 := B2.trans (b3.mono B2.size); have r13 := r12.below b3; have r23 := r2.below b3) | (go_at_call 13; refine (SR w3 A1 c1 r13).mono ?_; rintro e w4 ⟨rfl, g4⟩; have B4 := B3.trans (g4.below.mono B3.size); have r14 := r13.below g4.below; have r24 := r23.below g4.below) | (go_at_call 14; refine (SG _).mono ?_; rintro e w5 ⟨rfl, rfl⟩) | (go_at_call 16; refine (SZ _).mono ?_; rintro e w7 ⟨rfl, rfl⟩) | (go_at_call 18; refine (all_law w4 (hT.below B4)).mono ?_; rintro e w9 ⟨rfl, b9⟩; have B9 := B4.trans (b9.mono B4.size); have r19 := r14.below b9) | (go_at_call 19; refine (SW _).mono ?_; rintro e w10 ⟨rfl, rfl⟩) | (go_at_call 20; refine (SM w9 B9).mono ?_; rintro e w11 ⟨rfl, b11⟩; have B11 := B9.trans (b11.mono B9.size); have r111 := r19.below b11) | (go_at_call 15; refine (refSame_any A A1 m c m c1 l l _ (h.below B11) r111 (by omega)).mono ?_; rintro e w12 ⟨rfl, g12⟩))
      go_ret
      exact ⟨by first | (simp; done) | (simp; omega), B11.trans (g12.below.mono B11.size)⟩
end Go.Proofs.YthiijnanfiddpaaDoor

/-
  How many words blocks have, and which block is taken, by the document: contracts.
-/
import Derived.Test.YthiijnanfiddpaaDoorBudR2
import Derived.Test.YthiijnanfiddpaaDoorBudHeap
namespace Go.Proofs.YthiijnanfiddpaaDoor
open Go.RowKit

def sumL (l : List Blk) : Int := (l.map fun b => sz b.2).sum
theorem sumL_snoc (l : List Blk) (b : Blk) : sumL (l ++ [b]) = sumL l + sz b.2 := by simp [sumL]
theorem sumL_bound : ∀ (l : List Blk), (∀ b ∈ l, 0 ≤ b.2 ∧ b.2 ≤ 8) → 0 ≤ sumL l ∧ sumL l ≤ 256 * l.length
  | [], _ => by simp [sumL]
  | b :: t, h => by
    have h1 := sumL_bound t fun c hc => h c (List.mem_cons_of_mem _ hc)
    have hb := h b (List.mem_cons_self ..)
    have h2 := sz_pos b.2
    have h3 := sz_le256 hb.1 hb.2
    have e : sumL (b :: t) = sz b.2 + sumL t := by simp [sumL]
    rw [e, List.length_cons]
    omega
set_option maxHeartbeats 1000000 in
theorem refWords_any (A : Option Addr) (n c : Nat) (l : List Blk) (w : World) (h : RdS w A n l) (hn : n ≤ 1000) (hb : ∀ b ∈ l, 0 ≤ b.2 ∧ b.2 ≤ 8) :
    Calls Tryd.prog 26 #[.slice A n c] w fun e w' => e = .returned (.int .i64 (sumL l)) ∧ w = w' := by
  have hlen := h.len
  have HR := Lib.hid h
  clear h
  go_enter Tryd.func26, Tryd.ntmps26
  go_wp2
  go_loop [3, 4] (fun s i => ∃ k : Nat, k ≤ n ∧ i = .int .i64 (k : Int) ∧ s = .int .i64 (sumL (l.take k))) (fun _ i => n - (intOf i).toNat)
  case atStart => exact ⟨0, Nat.zero_le _, rfl, rfl⟩
  case round =>
    obtain ⟨k, hk, rfl, rfl⟩ := hrel
    have hsb := sumL_bound (l.take k) fun b hm => hb b (List.mem_of_mem_take hm)
    have htl : (l.take k).length ≤ 1000 := by rw [List.length_take]; omega
    by_cases hlt : k < n
    · obtain ⟨b', off, ⟨x0, x1⟩, rfl, hbl, hx, hc0, hc1⟩ := HR.out.cell hlt
      have ho := hb _ (List.mem_of_getElem? hx)
      simp only at ho hc0 hc1
      have S := fun W => refSize_any x1 W ho.1 ho.2
      have hs2 := sz_le256 ho.1 ho.2
      have hs3 := sz_pos x1
      have hst := Lib.hid (show sumL (l.take (k + 1)) = sumL (l.take k) + sz x1 by rw [take_snocB hx, sumL_snoc])
      obtain ⟨s, hs⟩ : ∃ s, s = sumL (l.take k) := ⟨_, rfl⟩
      obtain ⟨z, hz⟩ : ∃ z, z = sz x1 := ⟨_, rfl⟩
      rw [← hs] at hsb hst ⊢
      rw [← hz] at S hs2 hs3 hst
      have hsb2 : s ≤ 256000 := by omega
      have hsb1 := hsb.1
      have hki : (k : Int) < (n : Int) := by omega
      clear hs hz hx ho hsb htl hb
      go_wp2_with (go_at_call 16; refine (S _).mono ?_; rintro e w1 ⟨rfl, rfl⟩)
      go_round
      case rel => exact ⟨k + 1, by omega, by go_num, by rw [hst.out]⟩
      case measure => simp [intOf]; omega
    · obtain rfl : k = n := by omega
      rw [List.take_of_length_le (by omega)] at hsb ⊢
      clear hb
      go_wp2
      go_ret
      exact ⟨rfl, rfl⟩

/-- The place of the block that is taken, of the first ones. -/
def BestI (l : List Blk) (t : Int) (k : Nat) (a : Int) : Prop :=
  (a = -1 ∧ ∀ j, j < k → (nth l j).2 < t) ∨ ∃ p : Nat, a = (p : Int) ∧ p < k ∧ t ≤ (nth l p).2 ∧ ∀ j, j < k → t ≤ (nth l j).2 → (nth l p).2 < (nth l j).2 ∨ ((nth l p).2 = (nth l j).2 ∧ p ≤ j)
theorem BestI.small {l : List Blk} {t a : Int} {k : Nat} (h : BestI l t k a) (hk : (nth l k).2 < t) : BestI l t (k + 1) a := by
  rcases h with ⟨e, h⟩ | ⟨p, e, h1, h2, h3⟩
  · exact .inl ⟨e, fun j hj => by rcases Nat.lt_or_ge j k with h4 | h4; exact h j h4; rw [show j = k by omega]; exact hk⟩
  · exact .inr ⟨p, e, by omega, h2, fun j hj ht => by rcases Nat.lt_or_ge j k with h4 | h4; exact h3 j h4 ht; rw [show j = k by omega] at ht; omega⟩
theorem BestI.first {l : List Blk} {t : Int} {k : Nat} (h : BestI l t k (-1)) (hk : t ≤ (nth l k).2) : BestI l t (k + 1) (k : Int) := by
  rcases h with ⟨e, h⟩ | ⟨p, e, _⟩
  · exact .inr ⟨k, rfl, by omega, hk, fun j hj ht => by rcases Nat.lt_or_ge j k with h4 | h4; have := h j h4; omega; rw [show j = k by omega]; exact .inr ⟨rfl, Nat.le_refl _⟩⟩
  · omega
theorem BestI.less {l : List Blk} {t : Int} {k p : Nat} (h : BestI l t k (p : Int)) (hk : t ≤ (nth l k).2) (hl : (nth l k).2 < (nth l p).2) : BestI l t (k + 1) (k : Int) := by
  rcases h with ⟨e, _⟩ | ⟨q, e, h1, h2, h3⟩
  · omega
  · obtain rfl : p = q := by omega
    exact .inr ⟨k, rfl, by omega, hk, fun j hj ht => by
      rcases Nat.lt_or_ge j k with h4 | h4
      · rcases h3 j h4 ht with h5 | h5 <;> omega
      · rw [show j = k by omega]; exact .inr ⟨rfl, Nat.le_refl _⟩⟩
theorem BestI.more {l : List Blk} {t : Int} {k p : Nat} (h : BestI l t k (p : Int)) (hl : ¬ (nth l k).2 < (nth l p).2) : BestI l t (k + 1) (p : Int) := by
  rcases h with ⟨e, _⟩ | ⟨q, e, h1, h2, h3⟩
  · omega
  · obtain rfl : p = q := by omega
    exact .inr ⟨p, rfl, by omega, h2, fun j hj ht => by
      rcases Nat.lt_or_ge j k with h4 | h4
      · exact h3 j h4 ht
      · rw [show j = k by omega]; omega⟩
theorem BestI.lt {l : List Blk} {t : Int} {k p : Nat} (h : BestI l t k (p : Int)) : p < k := by
  rcases h with ⟨e, _⟩ | ⟨q, e, h1, _⟩ <;> omega
def BestRel (w : World) (l : List Blk) (t : Int) (a i : Value) (wr : World) : Prop := ∃ (k : Nat) (q : Int), k ≤ l.length ∧ i = .int .i64 (k : Int) ∧ a = .int .i64 q ∧ BestI l t k q ∧ Grew w wr
set_option maxHeartbeats 2000000 in
theorem refBest_any (A : Option Addr) (n c : Nat) (l : List Blk) (t : Int) (w : World) (h : RdS w A n l) (hn : n ≤ 1000) :
    Calls Tryd.prog 17 #[.slice A n c, .int .i64 t] w fun e w' => ∃ a, e = .returned (.int .i64 a) ∧ BestI l t l.length a ∧ Grew w w' := by
  have hlen := h.len
  have HR := Lib.hid h
  have mixed := mixedP
  clear h
  go_enter Tryd.func17, Tryd.ntmps17
  go_wp2
  go_loopw [5, 6] (BestRel w l t) (fun _ i _ => n - (intOf i).toNat)
  case atStart => exact ⟨0, -1, Nat.zero_le _, rfl, rfl, .inl ⟨rfl, fun j hj => absurd hj (Nat.not_lt_zero _)⟩, Grew.refl _⟩
  case round =>
    obtain ⟨k, q, hk, rfl, rfl, hB, gr⟩ := hrel
    by_cases hlt : k < n
    · obtain ⟨b', off, ⟨x0, x1⟩, rfl, hbl, hx, hc0, hc1⟩ := HR.out.cell hlt
      have hgr := gr.below
      have z1 := cell_grown (a := ⟨b', off + k * 2 + 1, none⟩) (Nat.lt_of_lt_of_le hbl hgr.size) ((hgr.cell (p := ⟨b', off + k * 2 + 1, none⟩) hbl).trans hc1)
      simp only at z1
      have hki : (k : Int) < (n : Int) := by omega
      have hxn : (nth l k).2 = x1 := by have := nth_get (l := l) (j := k) (by omega); rw [hx] at this; rw [← Option.some.inj this]
      have HB := Lib.hid hB
      have Hxn := Lib.hid hxn
      clear hB hxn hx hc0 hc1
      by_cases h1 : t ≤ x1
      · have hd1 : decide (t ≤ x1) = true := decide_eq_true h1
        by_cases hq : q = -1
        · subst hq
          have hnew := Lib.hid (HB.out.first (by rw [Hxn.out]; exact h1))
          go_wp2_with fail
          refine wp_region_quiet_grown mixed (by kernel_rfl) ?_
          repeat (go_big_quiet_step (fail))
          refine wpQuiet_nil ?_
          intro _ hw'
          obtain ⟨⟨nq, osq⟩, hw''⟩ := hw'
          subst hw''
          have G4 := (Grew.refl wr).grow nq osq
          generalize Go.Sort.grow (wr.drewN nq) osq = w4 at G4 ⊢
          clear z1
          go_wp2
          go_roundw
          case rel => exact ⟨k + 1, _, by omega, by go_num, rfl, hnew.out, gr.trans G4⟩
          case measure => simp [intOf]; omega
        · obtain ⟨p, rfl⟩ : ∃ p : Nat, q = (p : Int) := by
            rcases HB.out with ⟨e, _⟩ | ⟨p, e, _⟩
            · exact absurd e hq
            · exact ⟨p, e⟩
          have hpk := HB.out.lt
          obtain ⟨b2, off2, ⟨y0, y1⟩, hbo, _, hy, _, hd1'⟩ := HR.out.cell (show p < n by omega)
          injection hbo with hbo
          injection hbo with hb1 hb2
          subst hb1
          subst hb2
          have v1 := cell_grown (a := ⟨b', off + p * 2 + 1, none⟩) (Nat.lt_of_lt_of_le hbl hgr.size) ((hgr.cell (p := ⟨b', off + p * 2 + 1, none⟩) hbl).trans hd1')
          simp only at v1
          have hyn : (nth l p).2 = y1 := by have := nth_get (l := l) (j := p) (by omega); rw [hy] at this; rw [← Option.some.inj this]
          have hpi : (p : Int) < (n : Int) := by omega
          have hp0 : decide ((p : Int) < 0) = false := by simp
          clear hy hd1' hq
          by_cases h2 : x1 < y1
          · have hd2 : decide (x1 < y1) = true := decide_eq_true h2
            have hnew := Lib.hid (HB.out.less (by rw [Hxn.out]; exact h1) (by rw [Hxn.out, hyn]; exact h2))
            clear hyn
            go_wp2_with fail
            refine wp_region_quiet_grown mixed (by kernel_rfl) ?_
            repeat (go_big_quiet_step (fail))
            refine wpQuiet_nil ?_
            intro _ hw'
            obtain ⟨⟨nq, osq⟩, hw''⟩ := hw'
            subst hw''
            have G4 := (Grew.refl wr).grow nq osq
            generalize Go.Sort.grow (wr.drewN nq) osq = w4 at G4 ⊢
            clear z1 v1
            go_wp2
            go_roundw
            case rel => exact ⟨k + 1, _, by omega, by go_num, rfl, hnew.out, gr.trans G4⟩
            case measure => simp [intOf]; omega
          · have hd2 : decide (x1 < y1) = false := decide_eq_false h2
            have hnew := Lib.hid (HB.out.more (by rw [Hxn.out, hyn]; exact h2))
            clear hyn
            go_wp2_with fail
            refine wp_region_quiet_grown mixed (by kernel_rfl) ?_
            repeat (go_big_quiet_step (fail))
            refine wpQuiet_nil ?_
            intro _ hw'
            obtain ⟨⟨nq, osq⟩, hw''⟩ := hw'
            subst hw''
            have G4 := (Grew.refl wr).grow nq osq
            generalize Go.Sort.grow (wr.drewN nq) osq = w4 at G4 ⊢
            clear z1 v1
            go_wp2
            go_roundw
            case rel => exact ⟨k + 1, _, by omega, by go_num, rfl, hnew.out, gr.trans G4⟩
            case measure => simp [intOf]; omega
      · have hd1 : decide (t ≤ x1) = false := decide_eq_false h1
        have hnew := Lib.hid (HB.out.small (by rw [Hxn.out]; omega))
        go_wp2_with fail
        refine wp_region_quiet_grown mixed (by kernel_rfl) ?_
        repeat (go_big_quiet_step (fail))
        refine wpQuiet_nil ?_
        intro _ hw'
        obtain ⟨⟨nq, osq⟩, hw''⟩ := hw'
        subst hw''
        have G4 := (Grew.refl wr).grow nq osq
        generalize Go.Sort.grow (wr.drewN nq) osq = w4 at G4 ⊢
        clear z1
        go_wp2
        go_roundw
        case rel => exact ⟨k + 1, _, by omega, by go_num, rfl, hnew.out, gr.trans G4⟩
        case measure => simp [intOf]; omega
    · obtain rfl : k = n := by omega
      have HB := Lib.hid hB
      clear hB
      go_wp2
      go_ret
      exact ⟨q, rfl, by rw [hlen]; exact HB.out, gr⟩
end Go.Proofs.YthiijnanfiddpaaDoor

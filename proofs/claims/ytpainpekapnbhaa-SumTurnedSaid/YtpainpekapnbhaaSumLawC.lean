/-
  The walk of the law SumTurned: it says true, whatever came in, and nothing that was there is written over.
-/
import Derived.Test.YtpainpekapnbhaaSumLawB
import Derived.Test.YtpainpekapnbhaaSumTurn
namespace Go.Proofs.Ytpainpekapnbhaa
open Go.RowKit

theorem xor8_num (x o : UInt8) : bits .xor .u8 (x.toNat : Int) (o.toNat : Int) = ((x ^^^ o).toNat : Int) := by
  rw [u8_xor_nat _ _ x.toNat_lt o.toNat_lt, UInt8.toNat_xor]
theorem u8_neb {o : UInt8} (h : o ≠ 0) : ((o.toNat : Int) == 0) = false := by
  refine beq_eq_false_iff_ne.2 fun e => h ?_
  exact UInt8.toNat_inj.1 (by rw [show (0 : UInt8).toNat = 0 from rfl]; omega)
theorem u8_ne {o : UInt8} (h : o ≠ 0) : decide ((o.toNat : Int) = 0) = false := by
  refine decide_eq_false fun e => h ?_
  exact UInt8.toNat_inj.1 (by rw [show (0 : UInt8).toNat = 0 from rfl]; omega)

set_option maxHeartbeats 4000000 in
theorem sumTurned_walk (A : Option Addr) (n c : Nat) (b : List UInt8) (at_ : Int) (o t : UInt8) (w : World) (hb : Rd w A n b) :
    Calls Try.prog 7 #[.slice A n c, .int .i64 at_, .int .u8 (o.toNat : Int), .int .u8 (t.toNat : Int)] w (Holds w) := by
  by_cases hn : 65536 < n
  · go_enter Try.func7, Try.ntmps7
    go_wp2
    go_ret
    exact ⟨rfl, Below.refl _ _⟩
  · have Hl := Lib.hid hb.len
    have H1 : Hid ((sealOf b).length = n + 4) := Lib.hid (by rw [sealOf_length, Hl.out])
    rcases (show (at_ < 0 ∨ (n : Int) + 4 ≤ at_) ∨ ∃ i : Nat, at_ = (i : Int) ∧ i < n + 4 from by
      rcases Int.lt_or_le at_ 0 with h | h
      · exact .inl (.inl h)
      · rcases Int.lt_or_le at_ ((n : Int) + 4) with h2 | h2
        · exact .inr ⟨at_.toNat, by omega, by omega⟩
        · exact .inl (.inr h2)) with hat | ⟨i, rfl, hi⟩
    · rcases hat with hat | hat
      · have hd : decide (at_ < 0) = true := decide_eq_true hat
        clear hat
        go_enter Try.func7, Try.ntmps7
        go_wp2_with fail
        refine (seal_any A n c b w hb (by omega)).mono ?_
        rintro e w1 ⟨v1, rfl, o1, b1⟩
        obtain ⟨A1, c1, rfl, hc1, hm1, r1⟩ := o1.shapeN (n := n + 4) H1.out
        clear o1
        go_wp2_with fail
        refine (seals_any w1).mono ?_
        rintro e w2 ⟨rfl, b2⟩
        go_wp2
        go_ret
        exact ⟨rfl, b1.trans (b2.mono b1.size)⟩
      · have hd : decide (at_ < 0) = false := decide_eq_false (by omega)
        have hd2 : decide ((n : Int) + 4 ≤ at_) = true := decide_eq_true hat
        go_enter Try.func7, Try.ntmps7
        go_wp2_with fail
        refine (seal_any A n c b w hb (by omega)).mono ?_
        rintro e w1 ⟨v1, rfl, o1, b1⟩
        obtain ⟨A1, c1, rfl, hc1, hm1, r1⟩ := o1.shapeN (n := n + 4) H1.out
        clear o1
        go_wp2_with fail
        refine (seals_any w1).mono ?_
        rintro e w2 ⟨rfl, b2⟩
        go_wp2
        go_ret
        exact ⟨rfl, b1.trans (b2.mono b1.size)⟩
    · have hd : decide ((i : Int) < 0) = false := decide_eq_false (by omega)
      have hd2 : decide ((n : Int) + 4 ≤ (i : Int)) = false := decide_eq_false (by omega)
      go_enter Try.func7, Try.ntmps7
      go_wp2_with fail
      refine (seal_any A n c b w hb (by omega)).mono ?_
      rintro e w1 ⟨v1, rfl, o1, b1⟩
      change Own 5 w1 w.heap.size v1 (sealOf b) at o1
      obtain ⟨g, cap, hv, hg, hc2, hcm2⟩ := o1.form (by rw [H1.out]; omega)
      rw [H1.out] at hv hc2
      subst hv
      obtain ⟨x, hx, hcx⟩ := o1.cell H1.out hi
      have hfx := o1.free H1.out i
      obtain ⟨z, hz⟩ : ∃ z, z = x ^^^ o := ⟨_, rfl⟩
      have hxo : bits .xor .u8 (x.toNat : Int) (o.toNat : Int) = (z.toNat : Int) := by rw [hz]; exact xor8_num x o
      have o2 := o1.set H1.out i z
      change Own 5 (w1.setCell ⟨g, i, none⟩ (.int .u8 (z.toNat : Int))) _ _ _ at o2
      have b2 : Below w.heap.size w (w1.setCell ⟨g, i, none⟩ (.int .u8 (z.toNat : Int))) := b1.setCell (p := ⟨g, i, none⟩) hg _
      have HL2 : Hid (((sealOf b).set i z).length = n + 4) := Lib.hid (by rw [List.length_set, H1.out])
      have Hx := Lib.hid hx
      have Hz := Lib.hid hz
      clear hx hz
      go_upto_if 55 with (fail)
      clear hcx hfx hxo o1
      generalize w1.setCell ⟨g, i, none⟩ (.int .u8 (z.toNat : Int)) = w2 at *
      by_cases hlt : i + 1 < n + 4
      · have hd3 : decide ((i : Int) + 1 < (n : Int) + 4) = true := decide_eq_true (by omega)
        obtain ⟨y, hy, hcy⟩ := o2.cell HL2.out hlt
        have hfy := o2.free HL2.out (i + 1)
        have Hy : Hid ((sealOf b)[i + 1]? = some y) := Lib.hid (by rw [← hy, List.getElem?_set_ne (by omega)])
        obtain ⟨z2, hz2⟩ : ∃ z2, z2 = y ^^^ t := ⟨_, rfl⟩
        have hyt : bits .xor .u8 (y.toNat : Int) (t.toNat : Int) = (z2.toNat : Int) := by rw [hz2]; exact xor8_num y t
        have o3 := o2.set HL2.out (i + 1) z2
        change Own 5 (w2.setCell ⟨g, i + 1, none⟩ (.int .u8 (z2.toNat : Int))) _ _ _ at o3
        have b3 : Below w.heap.size w (w2.setCell ⟨g, i + 1, none⟩ (.int .u8 (z2.toNat : Int))) := b2.setCell (p := ⟨g, i + 1, none⟩) hg _
        have HL3 : Hid ((((sealOf b).set i z).set (i + 1) z2).length = n + 4) := Lib.hid (by rw [List.length_set, HL2.out])
        obtain ⟨A3, c3, hv3, _, _, r3⟩ := o3.shapeN HL3.out
        injection hv3 with e1 e2 e3
        subst e1
        subst e3
        have Hz2 := Lib.hid hz2
        clear hy hz2 o2
        go_wp2_with fail
        clear hcy hfy hyt o3 e2
        generalize w2.setCell ⟨g, i + 1, none⟩ (.int .u8 (z2.toNat : Int)) = w3 at *
        by_cases hot : o = 0 ∧ t = 0
        · obtain ⟨rfl, rfl⟩ := hot
          have E : Hid (((sealOf b).set i z).set (i + 1) z2 = sealOf b) := Lib.hid (by
            rw [Hz.out, turned_none Hx.out, Hz2.out, turned_none Hy.out])
          rw [E.out] at r3
          refine (open_yes (some ⟨g, 0, none⟩) (n + 4) cap _ w3 r3 (by omega) (by omega) hcm2 (by omega) (by have := sealOf_take b; rw [Hl.out] at this; rw [show n + 4 - 4 = n from rfl, this])).mono ?_
          rintro e w5 ⟨v5, rfl, o5, b5⟩
          clear o5
          have b15 := b3.trans (b5.mono b3.size)
          go_wp2_with fail
          refine (seals_any w5).mono ?_
          rintro e w6 ⟨rfl, b6⟩
          have b16 := b15.trans (b6.mono b15.size)
          go_wp2
          go_ret
          exact ⟨rfl, b16⟩

        · have NE : Hid (sealOf ((((sealOf b).set i z).set (i + 1) z2).take b.length) ≠ ((sealOf b).set i z).set (i + 1) z2) := Lib.hid fun h => by
            rw [Hz.out, Hz2.out] at h
            exact hot (turned_two Hx.out Hy.out h)
          refine (open_no (some ⟨g, 0, none⟩) (n + 4) cap _ w3 r3 (by omega) hcm2 (by omega) (.inr (by rw [show n + 4 - 4 = n from rfl, ← Hl.out]; exact NE.out))).mono ?_
          rintro e w5 ⟨rfl, b5⟩
          have b15 := b3.trans (b5.mono b3.size)
          go_wp2_with fail
          refine (seals_any w5).mono ?_
          rintro e w6 ⟨rfl, b6⟩
          have b16 := b15.trans (b6.mono b15.size)

          by_cases ho : o = 0
          · subst ho
            have ht : decide ((t.toNat : Int) = 0) = false := u8_ne fun h => hot ⟨rfl, h⟩
            have ht2 : ((t.toNat : Int) == 0) = false := u8_neb fun h => hot ⟨rfl, h⟩
            clear hot
            go_wp2
            go_ret
            exact ⟨rfl, b16⟩

          · have h0 : decide ((o.toNat : Int) = 0) = false := u8_ne ho
            have h0b : ((o.toNat : Int) == 0) = false := u8_neb ho
            clear hot ho
            go_wp2
            go_ret
            exact ⟨rfl, b16⟩

      · have hd3 : decide ((i : Int) + 1 < (n : Int) + 4) = false := decide_eq_false (by omega)
        have hbi : b.length ≤ i := by rw [Hl.out]; omega
        obtain ⟨A3, c3, hv3, _, _, r3⟩ := o2.shapeN HL2.out
        injection hv3 with e1 e2 e3
        subst e1
        subst e3
        clear o2 e2
        go_wp2_with fail
        by_cases ho : o = 0
        · subst ho
          have E : Hid ((sealOf b).set i z = sealOf b) := Lib.hid (by rw [Hz.out, turned_none Hx.out])
          rw [E.out] at r3
          refine (open_yes (some ⟨g, 0, none⟩) (n + 4) cap _ w2 r3 (by omega) (by omega) hcm2 (by omega) (by have := sealOf_take b; rw [Hl.out] at this; rw [show n + 4 - 4 = n from rfl, this])).mono ?_
          rintro e w5 ⟨v5, rfl, o5, b5⟩
          clear o5
          have b15 := b2.trans (b5.mono b2.size)
          go_wp2_with fail
          refine (seals_any w5).mono ?_
          rintro e w6 ⟨rfl, b6⟩
          have b16 := b15.trans (b6.mono b15.size)
          go_wp2
          go_ret
          exact ⟨rfl, b16⟩

        · have NE : Hid (sealOf (((sealOf b).set i z).take b.length) ≠ (sealOf b).set i z) := Lib.hid fun h => by
            rw [Hz.out] at h
            exact ho (turned_last hbi Hx.out h)
          have h0 : decide ((o.toNat : Int) = 0) = false := u8_ne ho
          have h0b : ((o.toNat : Int) == 0) = false := u8_neb ho
          clear ho
          refine (open_no (some ⟨g, 0, none⟩) (n + 4) cap _ w2 r3 (by omega) hcm2 (by omega) (.inr (by rw [show n + 4 - 4 = n from rfl, ← Hl.out]; exact NE.out))).mono ?_
          rintro e w5 ⟨rfl, b5⟩
          have b15 := b2.trans (b5.mono b2.size)
          go_wp2_with fail
          refine (seals_any w5).mono ?_
          rintro e w6 ⟨rfl, b6⟩
          have b16 := b15.trans (b6.mono b15.size)

          go_wp2
          go_ret
          exact ⟨rfl, b16⟩

end Go.Proofs.Ytpainpekapnbhaa

/-
  The statements' own call of both disks, of kind Write; and of whatever kind. Contracts.
-/
import Derived.Test.YtoookmkfaihbpaaPdCall2
namespace Go.Proofs.Ytoookmkfaihbpaa
open Go.RowKit

def OwRel (w : World) (B g m c : Nat) (i : Value) (wr : World) : Prop := ∃ k : Nat, k ≤ m ∧ i = .int .i64 (k : Int) ∧ (∃ l, l.length = m + 6 ∧ Own 5 wr B (.slice (some ⟨g, 0, none⟩) (m + 6) c) l) ∧ Below B w wr
section
variable {w w' : World} {n p q r pm g1 g2 g3 : Nat} {S T : Dk} {o : Pop}
set_option maxRecDepth 20000 in
set_option maxHeartbeats 4000000 in
theorem call_write (h : CallPre w n p q r pm g1 g2 g3 S o) (hk : o.k = 1) :
    Calls Try.prog 11 #[.pointer (some ⟨p, 0, none⟩), .pointer (some ⟨pm, 0, none⟩), popv o] w (CallPost w n p q r pm g1 g2 g3) := by
  obtain ⟨k, a, A, m, c, l, K, j, d, ks⟩ := o
  dsimp only at hk
  subst hk
  have HL := Lib.hid fun j (hj : cs7 p q r pm g1 g2 g3 j) => h.lt hj
  have HA := Lib.hid (h.below ((Below.refl _ _).alloc (Nat.le_refl _) (.cells (pcs ⟨1, a, A, m, c, l, K, j, d, ks⟩).toArray 35)))
  have HO := Lib.hid ((Oth.refl (cs7 p q r pm g1 g2 g3) w).alloc (.cells (pcs ⟨1, a, A, m, c, l, K, j, d, ks⟩).toArray 35))
  have HW := Lib.hid (pop_box w ⟨1, a, A, m, c, l, K, j, d, ks⟩)
  have hm : m ≤ 1000 := h.sm
  have hlm : l.length = m := h.rd.bytes.len
  have Hlm := Lib.hid hlm
  have HR := Lib.hid h.rd.bytes
  clear h hlm
  have c1 := lent_own A m c l _ HA.out.rd.bytes (by show m ≤ _; omega)
  have z1 := HW.out.cell 1
  have z2 := HW.out.cell 2
  have HS := Lib.hid (show (w.alloc (.cells (pcs ⟨1, a, A, m, c, l, K, j, d, ks⟩).toArray 35)).heap.size = w.heap.size + 1 from by simp)
  unfold popv
  simp only [pcs] at c1 z1 z2 HS ⊢
  go_enter Try.func11, Try.ntmps11
  go_upto_region 4 with (go_at_call 22; refine c1.mono ?_; rintro e w1 ⟨g, cp, rfl, hcp, hcm, hg, hown, hb⟩)
  clear c1 z1 z2
  rw [HS.out] at hg hown hb
  rw [Hlm.out] at hcp hown ⊢
  have P1 := Lib.hid (HA.out.below (by simp only [pcs]; rw [HS.out]; exact hb))
  have Q1 := Lib.hid (HO.out.trans (Oth.of_below (by simp only [pcs]; rw [HS.out]; exact hb) _))
  have HW1 := Lib.hid (HW.out.below (by simp only [pcs]; rw [HS.out]; exact hb))
  obtain ⟨hr6, hr⟩ := lent_rd Hlm.out hown
  have c2 := write_any (c := cp) P1.out.d a hr (fun _ x hx hd => by
    injection hx with hx
    subst hx
    have := HL.out g (.inl hd)
    omega) rfl rfl
  have y1 := HW1.out.cell 1
  have y2 := HW1.out.cell 2
  simp only [pcs] at y1 y2
  have y1' : w1.cell? ⟨w.heap.size, 1, none⟩ = some (.int .i64 a) := y1
  have HB1 := Lib.hid (show w.heap.size + 1 ≤ w1.heap.size from by have := hb.size; rw [HS.out] at this; exact this)
  have HOw := Lib.hid hown
  have HR6 := Lib.hid hr6
  have Hg := Lib.hid hg
  clear hr hr6 hown hb y1 y2 HO HA HW hg
  go_upto_region 5 with (go_at_call 12; refine c2.mono ?_; rintro e w2 ⟨rfl, D2, O2⟩)
  have P2 := Lib.hid (P1.out.onD D2 O2)
  have Q2 := Lib.hid (Q1.out.trans O2.ofD)
  have hgd : ¬ ds p q r g := fun hd => by
    have := HL.out g (.inl hd)
    have := Hg.out
    omega
  have HW2 := Lib.hid (HW1.out.keep (O2.block _ HW1.out.lt fun hd => by have := HL.out _ (.inl hd); omega))
  have hown2 : Own 5 w2 (w.heap.size + 1) (.slice (some ⟨g, 0, none⟩) (m + 6) cp) (l ++ pad 6) := HOw.out.keep fun k hk => by
    have e : g = k := by simpa [Value.ownBlock] using hk
    subst e
    exact O2.block g (HOw.out.lt g hk).2 hgd
  have hr6 : Rd w2 (some ⟨g, 0, none⟩) (m + 6) (l ++ pad 6) := (lent_rd Hlm.out hown2).1
  have c3 := kept_yes (some ⟨g, 0, none⟩) A m cp c l w2 hr6 hcp hcm P2.out.rd.bytes
  have y2 := HW2.out.cell 2
  simp only [pcs] at y2
  have y2' : w2.cell? ⟨w.heap.size, 2, none⟩ = some (.slice A m c) := y2
  have HB2 := Lib.hid (Nat.le_trans HB1.out O2.size)
  have HO2 := Lib.hid hown2
  clear c2 y1' D2 O2 hown2 hr6 y2 hgd HOw HR6 P1 Q1 HW1 HB1
  go_upto_region 6 with (go_at_call 23; refine c3.mono ?_; rintro e w' ⟨rfl, rfl⟩)
  clear c3 y2'
  unfold maxLen at hcm
  go_wp2
  go_loopw [10] (OwRel w2 (w.heap.size + 1) g m cp) (fun i _ => m - (intOf i).toNat)
  case atStart => exact ⟨0, Nat.zero_le _, rfl, ⟨_, by rw [List.length_append, Hlm.out, pad_length], HO2.out⟩, Below.refl _ _⟩
  case round =>
    obtain ⟨k, hk, rfl, ⟨l', hl', ho'⟩, hb'⟩ := hrel
    by_cases hlt : k < m
    · obtain ⟨g', u, hge, d1, d2, ⟨l2, hl2, ho2⟩, hb2⟩ := ov_step (k := k) (by omega) hl' ho' hb' HB2.out
      obtain rfl : g = g' := by simpa using hge
      have H2 := Lib.hid ho2
      have HL2 := Lib.hid hl2
      have HB3 := Lib.hid hb2
      clear ho' hl' hb' ho2 hl2 hb2 hge
      have hlt' : (k : Int) < (m : Int) := by omega
      go_wp2
      go_roundw
      case rel => exact ⟨k + 1, hlt, by go_num, ⟨l2, HL2.out, H2.out⟩, HB3.out⟩
      case measure => simp [intOf]; omega
    · obtain rfl : k = m := by omega
      have PE := Lib.hid (P2.out.low hb' fun j hj => by have := HL.out j hj; omega)
      have QE := Lib.hid (oth_low Q2.out hb' (by omega))
      have HWE := HW2.out.keep (hb'.block w.heap.size (by omega))
      have hrE : Rd wr A k l := by
        refine ⟨P2.out.rd.bytes.len, fun hn => ?_⟩
        obtain ⟨b, off, e, hb, _⟩ := HR.out.at_ hn
        obtain ⟨b2, off2, e2, _, hc⟩ := P2.out.rd.bytes.at_ hn
        dsimp only at e e2 hb hc
        rw [e] at e2
        injection e2 with e2
        injection e2 with e3 e4 _
        subst e3 e4
        have hlt3 : b < wr.heap.size := by
          have := hb'.size
          have := HB2.out
          omega
        exact ⟨b, off, e, hlt3, fun j x hx => (hb'.cell (p := ⟨b, off + j, none⟩) (by show b < _; omega)).trans (hc j x hx)⟩
      have c4 := mwrite_any (c := c) PE.out.2 a hrE
      have y1 := HWE.cell 1
      have y2 := HWE.cell 2
      simp only [pcs] at y1 y2
      have y1' : wr.cell? ⟨w.heap.size, 1, none⟩ = some (.int .i64 a) := y1
      have y2' : wr.cell? ⟨w.heap.size, 2, none⟩ = some (.slice A k c) := y2
      clear ho' hl' hb' y1 y2 HWE hrE
      go_wp2_with (go_at_call 24; refine c4.mono ?_; rintro e w4 ⟨er, rfl, M4, O4⟩)
      have M5 := Lib.hid M4
      have D5 := Lib.hid (PE.out.1.oth O4 fun j hj hm => P2.out.dm j hj hm)
      have Q5 := Lib.hid (QE.out.trans O4.ofM)
      clear M4 O4
      go_wp2
      go_ret
      exact ⟨_, _, rfl, D5.out, M5.out, Q5.out⟩
theorem call_any (h : CallPre w n p q r pm g1 g2 g3 S o) :
    Calls Try.prog 11 #[.pointer (some ⟨p, 0, none⟩), .pointer (some ⟨pm, 0, none⟩), popv o] w (CallPost w n p q r pm g1 g2 g3) := by
  by_cases h1 : o.k = 1
  · exact call_write h h1
  · by_cases h2 : o.k = 2
    · exact call_flush h h2
    · by_cases h3 : o.k = 3
      · exact call_read h h3
      · by_cases h4 : o.k = 4
        · exact call_stop h h4
        · by_cases h5 : o.k = 5
          · exact call_crash h h5
          · exact call_other h h1 h2 h3 h4 h5
end
end Go.Proofs.Ytoookmkfaihbpaa

/-
  The document's disk: Crash. A contract, as in PdRef. (By gen_pdref3.py.)
-/
import Derived.Test.YtoookmkfaihbpaaPdRef2
namespace Go.Proofs.Ytoookmkfaihbpaa
open Go.RowKit

def MCRel (w : World) (n p g1 g2 g3 : Nat) (kv iv : Value) (wr : World) : Prop := ∃ i k : Nat, i ≤ n ∧ k ≤ i ∧ iv = .int .i64 (i : Int) ∧ kv = .int .i64 (k : Int) ∧ MAt wr n p g1 g2 g3 ∧ Oth (ms p g1 g2 g3) w wr
section
variable {w w' : World} {n p g1 g2 g3 : Nat}
set_option maxRecDepth 20000 in
set_option maxHeartbeats 2000000 in
theorem mcrash_any (h : MAt w n p g1 g2 g3) {A : Option Addr} {m c : Nat} {keep : List Bool} (hk : RdV w A m (tvs keep)) (hA : 0 < m → ∀ x, A = some x → ¬ ms p g1 g2 g3 x.block) : Calls Try.prog 28 #[.pointer (some ⟨p, 0, none⟩), .slice A m c] w
    fun e w' => e = .returned (.tuple #[]) ∧ MAt w' n p g1 g2 g3 ∧ Oth (ms p g1 g2 g3) w w' := by
  have hmost := h.most
  have Hh := Lib.hid h
  have Hk := Lib.hid hk
  have HA := Lib.hid hA
  have hkm : keep.length = m := by
    have := hk.len
    simpa [tvs] using this
  have Hkm := Lib.hid hkm
  clear h hk hA hkm
  go_enter Try.func28, Try.ntmps28
  go_wp2
  go_loopw [4, 5] (MCRel w n p g1 g2 g3) (fun _ i _ => n - (intOf i).toNat)
  case atStart => exact ⟨0, 0, Nat.zero_le _, Nat.le_refl _, rfl, rfl, Hh.out, Oth.refl _ _⟩
  case round =>
    obtain ⟨i, k, hi, hki, rfl, rfl, M, O⟩ := hrel
    obtain ⟨c1, c2, c3, dn, st, lf, z0, _, z2, _, _, _, zf⟩ := M.cells
    have HM := Lib.hid M
    have HO := Lib.hid O
    clear M O
    by_cases hlt : i < n
    · have hlt' : (i : Int) < (n : Int) := by omega
      obtain ⟨d, hd⟩ := HM.out.dirty.cell hlt
      clear zf
      cases d with
      | false =>
        go_wp2
        go_roundw
        case rel => exact ⟨i + 1, k, hlt, by omega, by go_num, rfl, HM.out, HO.out⟩
        case measure => simp [intOf]; omega
      | true =>
        by_cases hkl : k < m
        · obtain ⟨b2, off2, y, rfl, hb2, hy, hcell2⟩ := Hk.out.cell hkl
          rw [tvs_get (by rw [Hkm.out]; exact hkl)] at hy
          injection hy with hy
          have hc2 : wr.cell? ⟨b2, off2 + k, none⟩ = some y := by
            rw [← hcell2]
            exact World.cell?_of_block (HO.out.block b2 hb2 (HA.out (by omega) _ rfl))
          rw [← hy] at hc2
          have hkl' : (k : Int) < (m : Int) := by omega
          clear hcell2 hy
          cases hb : keep.getD k false with
          | true =>
            rw [hb] at hc2
            clear hb
            go_wp2
            obtain ⟨q1, q2, q3, dnq, stq, lfq, y0, y1, _, _, _, _, _⟩ := HM.out.drew.cells
            obtain ⟨s, hs⟩ := HM.out.drew.now.cell hlt
            obtain ⟨s2, hs2⟩ := HM.out.drew.safe.cell hlt
            have hf2 := HM.out.drew.safe.free i
            go_region
            all_goals (
              have M3 : MAt (wr.setCell ⟨g2, i, none⟩ (.string s)).drew n p g1 g2 g3 := HM.out.drew.setStr (.inr rfl) i s
              have O3 : Oth (ms p g1 g2 g3) w (wr.setCell ⟨g2, i, none⟩ (.string s)).drew := HO.out.drew.set (.inr (.inr (.inl rfl))) i (.string s)
              clear y0 y1 hs hs2 hf2
              generalize (wr.setCell ⟨g2, i, none⟩ (.string s)).drew = W3 at M3 O3 ⊢
              obtain ⟨r1, r2, r3, dnr, str, lfr, _, _, x2, _⟩ := M3.cells
              obtain ⟨b0, e1⟩ := M3.dirty.cell hlt
              have e2 := M3.dirty.free i
              have M4 := Lib.hid (M3.setTru i false)
              have O4 := Lib.hid (O3.set (X := ms p g1 g2 g3) (.inr (.inr (.inr rfl))) i (.bool false))
              clear M3 O3
              go_wp2
              go_roundw
              case rel => exact ⟨i + 1, k + 1, hlt, by omega, by go_num, by go_num, M4.out, O4.out⟩
              case measure => simp [intOf]; omega)
          | false =>
            rw [hb] at hc2
            clear hb
            go_wp2
            obtain ⟨q1, q2, q3, dnq, stq, lfq, y0, y1, _, _, _, _, _⟩ := HM.out.drew.cells
            obtain ⟨s, hs⟩ := HM.out.drew.now.cell hlt
            obtain ⟨s2, hs2⟩ := HM.out.drew.safe.cell hlt
            have hf2 := HM.out.drew.now.free i
            go_region
            all_goals (
              have M3 : MAt (wr.setCell ⟨g1, i, none⟩ (.string s2)).drew n p g1 g2 g3 := HM.out.drew.setStr (.inl rfl) i s2
              have O3 : Oth (ms p g1 g2 g3) w (wr.setCell ⟨g1, i, none⟩ (.string s2)).drew := HO.out.drew.set (.inr (.inl rfl)) i (.string s2)
              clear y0 y1 hs hs2 hf2 z0 z2 hd
              generalize (wr.setCell ⟨g1, i, none⟩ (.string s2)).drew = W6 at M3 O3 ⊢
              have M6 := Lib.hid M3
              have O6 := Lib.hid O3
              clear M3 O3
              go_wp2
              obtain ⟨q1, q2, q3, dnq, stq, lfq, y0, y1, _, _, _, _, _⟩ := M6.out.drew.cells
              obtain ⟨s, hs⟩ := M6.out.drew.now.cell hlt
              obtain ⟨s2, hs2⟩ := M6.out.drew.safe.cell hlt
              have hf2 := M6.out.drew.safe.free i
              go_region
              all_goals (
                have M3 : MAt (W6.setCell ⟨g2, i, none⟩ (.string s)).drew n p g1 g2 g3 := M6.out.drew.setStr (.inr rfl) i s
                have O3 : Oth (ms p g1 g2 g3) w (W6.setCell ⟨g2, i, none⟩ (.string s)).drew := O6.out.drew.set (.inr (.inr (.inl rfl))) i (.string s)
                clear y0 y1 hs hs2 hf2
                generalize (W6.setCell ⟨g2, i, none⟩ (.string s)).drew = W3 at M3 O3 ⊢
                obtain ⟨r1, r2, r3, dnr, str, lfr, _, _, x2, _⟩ := M3.cells
                obtain ⟨b0, e1⟩ := M3.dirty.cell hlt
                have e2 := M3.dirty.free i
                have M4 := Lib.hid (M3.setTru i false)
                have O4 := Lib.hid (O3.set (X := ms p g1 g2 g3) (.inr (.inr (.inr rfl))) i (.bool false))
                clear M3 O3
                go_wp2
                go_roundw
                case rel => exact ⟨i + 1, k + 1, hlt, by omega, by go_num, by go_num, M4.out, O4.out⟩
                case measure => simp [intOf]; omega))
        · have hkl' : ¬ (k : Int) < (m : Int) := by omega
          go_wp2
          obtain ⟨q1, q2, q3, dnq, stq, lfq, y0, y1, _, _, _, _, _⟩ := HM.out.drew.cells
          obtain ⟨s, hs⟩ := HM.out.drew.now.cell hlt
          obtain ⟨s2, hs2⟩ := HM.out.drew.safe.cell hlt
          have hf2 := HM.out.drew.now.free i
          go_region
          all_goals (
            have M3 : MAt (wr.setCell ⟨g1, i, none⟩ (.string s2)).drew n p g1 g2 g3 := HM.out.drew.setStr (.inl rfl) i s2
            have O3 : Oth (ms p g1 g2 g3) w (wr.setCell ⟨g1, i, none⟩ (.string s2)).drew := HO.out.drew.set (.inr (.inl rfl)) i (.string s2)
            clear y0 y1 hs hs2 hf2 z0 z2 hd
            generalize (wr.setCell ⟨g1, i, none⟩ (.string s2)).drew = W6 at M3 O3 ⊢
            have M6 := Lib.hid M3
            have O6 := Lib.hid O3
            clear M3 O3
            go_wp2
            obtain ⟨q1, q2, q3, dnq, stq, lfq, y0, y1, _, _, _, _, _⟩ := M6.out.drew.cells
            obtain ⟨s, hs⟩ := M6.out.drew.now.cell hlt
            obtain ⟨s2, hs2⟩ := M6.out.drew.safe.cell hlt
            have hf2 := M6.out.drew.safe.free i
            go_region
            all_goals (
              have M3 : MAt (W6.setCell ⟨g2, i, none⟩ (.string s)).drew n p g1 g2 g3 := M6.out.drew.setStr (.inr rfl) i s
              have O3 : Oth (ms p g1 g2 g3) w (W6.setCell ⟨g2, i, none⟩ (.string s)).drew := O6.out.drew.set (.inr (.inr (.inl rfl))) i (.string s)
              clear y0 y1 hs hs2 hf2
              generalize (W6.setCell ⟨g2, i, none⟩ (.string s)).drew = W3 at M3 O3 ⊢
              obtain ⟨r1, r2, r3, dnr, str, lfr, _, _, x2, _⟩ := M3.cells
              obtain ⟨b0, e1⟩ := M3.dirty.cell hlt
              have e2 := M3.dirty.free i
              have M4 := Lib.hid (M3.setTru i false)
              have O4 := Lib.hid (O3.set (X := ms p g1 g2 g3) (.inr (.inr (.inr rfl))) i (.bool false))
              clear M3 O3
              go_wp2
              go_roundw
              case rel => exact ⟨i + 1, k + 1, hlt, by omega, by go_num, by go_num, M4.out, O4.out⟩
              case measure => simp [intOf]; omega))
    · obtain rfl : i = n := by omega
      have f3 := zf 3
      have f4 := zf 4
      have H5 := Lib.hid ((HM.out.setDown false).setStops false)
      have HP := Lib.hid ((HO.out.set (X := ms p g1 g2 g3) (.inl rfl) 3 (.bool false)).set (.inl rfl) 4 (.bool false))
      obtain ⟨r1, r2, r3, dnr, str, lfr, _, _, _, u3, u4, _, _⟩ := HM.out.cells
      clear zf
      go_wp2
      go_end0
      exact ⟨rfl, H5.out, HP.out⟩
end
end Go.Proofs.Ytoookmkfaihbpaa

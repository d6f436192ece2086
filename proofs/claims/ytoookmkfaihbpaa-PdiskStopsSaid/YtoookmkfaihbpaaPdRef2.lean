/-
  The document's disk: Write, Flush, Crash. Contracts, as in PdRef.
-/
import Derived.Test.YtoookmkfaihbpaaPdRef
import Derived.Deep.CutBlock
import Derived.Deep.DeepCutAuto
namespace Go.Proofs.Ytoookmkfaihbpaa
open Go.RowKit

section
variable {w w' : World} {n p g1 g2 g3 : Nat}
set_option maxRecDepth 20000 in
set_option maxHeartbeats 1000000 in
theorem mwrite_any (h : MAt w n p g1 g2 g3) (a : Int) {A : Option Addr} {m c : Nat} {l : List UInt8} (hl : Rd w A m l) : Calls Try.prog 24 #[.pointer (some ⟨p, 0, none⟩), .int .i64 a, .slice A m c] w (MNum w n p g1 g2 g3) := by
  obtain ⟨c1, c2, c3, dn, st, lf, z0, _, z2, z3, _, _, zf⟩ := h.cells
  have ht := mthere_any h a
  have hmost := h.most
  have Hh := Lib.hid h
  have Hl := Lib.hid hl
  clear h zf hl
  cases dn with
  | true =>
    go_enter Try.func24, Try.ntmps24
    go_wp2
    go_ret
    exact ⟨_, rfl, Hh.out, Oth.refl _ _⟩
  | false =>
    by_cases ha : 0 ≤ a ∧ a < (n : Int)
    · rw [show decide (0 ≤ a ∧ a < (n : Int)) = true from by simp [ha]] at ht
      obtain ⟨k, rfl⟩ : ∃ k : Nat, a = (k : Int) := ⟨a.toNat, by omega⟩
      have hk : k < n := by omega
      obtain ⟨_, ha⟩ := ha
      by_cases hm : m ≤ 64
      · have hf := full_any (c := c) (Hl.out.drew) (by omega)
        obtain ⟨s, hs⟩ : ∃ s, s = ByteArray.mk (full l).toArray := ⟨_, rfl⟩
        unfold FullPost at hf
        rw [← hs] at hf
        clear hs
        have z0' : w.drew.cell? ⟨p, 0, none⟩ = some (.slice (some ⟨g1, 0, none⟩) n c1) := z0
        have S1 := Lib.hid z0'
        clear z0'
        have S2 := Lib.hid fun (W : World) (hb : Below w.drew.heap.size w.drew W) => (hb.cell (p := ⟨p, 0, none⟩) (Hh.out.drew.lt (.inl rfl))).trans z0
        have S3 := Lib.hid fun (W : World) (hb : Below w.drew.heap.size w.drew W) => (World.cell?_of_block (w := W) (w' := W.setCell ⟨g1, k, none⟩ (.string s)) (a := ⟨p, 0, none⟩) (heap_setCell_other W ⟨g1, k, none⟩ p _ Hh.out.ne1)).trans (S2.out W hb)
        go_enter Try.func24, Try.ntmps24
        go_upto_region 7 with (go_at_call 34; refine ht.mono ?_; rintro e w' ⟨rfl, rfl⟩)
        clear ht z2 z3 z0
        have z0' := S1.out
        go_region_with (go_at_call 18; refine hf.mono ?_; rintro e w2 ⟨rfl, hbw⟩; have M2 := Lib.hid (Hh.out.drew.below hbw); obtain ⟨s0, d1⟩ := M2.out.now.cell hk; have d2 := M2.out.now.free k; have d3 := S2.out w2 hbw)
        all_goals (
          have M3 := M2.out.setStr (.inl rfl) k s
          have O3 := ((Oth.refl (ms p g1 g2 g3) w').drew.trans (Oth.of_below hbw _)).set (.inr (.inl rfl)) k (.string s)
          clear d1 d2 d3 hbw M2 z0' hf S1 S2 S3
          generalize w2.setCell ⟨g1, k, none⟩ (.string s) = W3 at M3 O3 ⊢
          obtain ⟨c1', c2', c3', dn', st', lf', _, _, y2, _⟩ := M3.cells
          obtain ⟨b0, e1⟩ := M3.dirty.cell hk
          have e2 := M3.dirty.free k
          have M4 := M3.setTru k true
          have hs := mstep_any M4
          have HO := Lib.hid (O3.set (X := ms p g1 g2 g3) (.inr (.inr (.inr rfl))) k (.bool true))
          clear M4 M3 O3
          go_wp2_with (go_at_call 35; refine hs.mono ?_; rintro e w5 ⟨er, rfl, M5, O5⟩)
          have H5 := Lib.hid M5
          have HP := Lib.hid (HO.out.trans O5)
          clear M5 O5
          go_wp2
          go_ret
          exact ⟨_, rfl, H5.out, HP.out⟩)
      · go_enter Try.func24, Try.ntmps24
        go_wp2_with (go_at_call 34; refine ht.mono ?_; rintro e w' ⟨rfl, rfl⟩)
        go_ret
        exact ⟨_, rfl, Hh.out, Oth.refl _ _⟩
    · rw [show decide (0 ≤ a ∧ a < (n : Int)) = false from by simp only [decide_eq_false_iff_not]; exact ha] at ht
      clear ha
      go_enter Try.func24, Try.ntmps24
      go_wp2_with (go_at_call 34; refine ht.mono ?_; rintro e w' ⟨rfl, rfl⟩)
      go_ret
      exact ⟨_, rfl, Hh.out, Oth.refl _ _⟩
def MFRel (w : World) (n p g1 g2 g3 : Nat) (i : Value) (wr : World) : Prop := ∃ k : Nat, k ≤ n ∧ i = .int .i64 (k : Int) ∧ MAt wr n p g1 g2 g3 ∧ Oth (ms p g1 g2 g3) w wr
set_option maxRecDepth 20000 in
set_option maxHeartbeats 1000000 in
theorem mflush_any (h : MAt w n p g1 g2 g3) : Calls Try.prog 25 #[.pointer (some ⟨p, 0, none⟩)] w (MNum w n p g1 g2 g3) := by
  obtain ⟨c1, c2, c3, dn, st, lf, _, _, _, z3, _, _, zf⟩ := h.cells
  have hmost := h.most
  have Hh := Lib.hid h
  clear h zf
  cases dn with
  | true =>
    go_enter Try.func25, Try.ntmps25
    go_wp2
    go_ret
    exact ⟨_, rfl, Hh.out, Oth.refl _ _⟩
  | false =>
    go_enter Try.func25, Try.ntmps25
    go_wp2
    clear z3
    go_loopw [3] (MFRel w n p g1 g2 g3) (fun i _ => n - (intOf i).toNat)
    case atStart => exact ⟨0, Nat.zero_le _, rfl, Hh.out, Oth.refl _ _⟩
    case round =>
      obtain ⟨k, hk, rfl, M, O⟩ := hrel
      obtain ⟨c1, c2, c3, dn, st, lf, z0, _, _, _, _, _, _⟩ := M.cells
      have HM := Lib.hid M
      have HO := Lib.hid O
      clear M O
      by_cases hlt : k < n
      · have hlt' : (k : Int) < (n : Int) := by omega
        go_wp2
        obtain ⟨c1', c2', c3', dn', st', lf', y0, y1, _, _, _, _, _⟩ := HM.out.drew.cells
        obtain ⟨s, hs⟩ := HM.out.drew.now.cell hlt
        obtain ⟨s2, hs2⟩ := HM.out.drew.safe.cell hlt
        have hf2 := HM.out.drew.safe.free k
        go_region
        all_goals (
          have M3 : MAt (wr.setCell ⟨g2, k, none⟩ (.string s)).drew n p g1 g2 g3 := HM.out.drew.setStr (.inr rfl) k s
          have O3 : Oth (ms p g1 g2 g3) w (wr.setCell ⟨g2, k, none⟩ (.string s)).drew := HO.out.drew.set (.inr (.inr (.inl rfl))) k (.string s)
          clear y0 y1 hs hs2 hf2 z0
          generalize (wr.setCell ⟨g2, k, none⟩ (.string s)).drew = W3 at M3 O3 ⊢
          obtain ⟨c1', c2', c3', dn', st', lf', _, _, y2, _⟩ := M3.cells
          obtain ⟨b0, e1⟩ := M3.dirty.cell hlt
          have e2 := M3.dirty.free k
          have M4 := Lib.hid (M3.setTru k false)
          have O4 := Lib.hid (O3.set (X := ms p g1 g2 g3) (.inr (.inr (.inr rfl))) k (.bool false))
          clear M3 O3
          go_wp2
          go_roundw
          case rel => exact ⟨k + 1, hlt, by go_num, M4.out, O4.out⟩
          case measure => simp [intOf]; omega)
      · obtain rfl : k = n := by omega
        have hs := mstep_any HM.out
        go_wp2_with (go_at_call 35; refine hs.mono ?_; rintro e w5 ⟨er, rfl, M5, O5⟩)
        have H5 := Lib.hid M5
        have HP := Lib.hid (HO.out.trans O5)
        clear M5 O5
        go_wp2
        go_ret
        exact ⟨_, rfl, H5.out, HP.out⟩
end
end Go.Proofs.Ytoookmkfaihbpaa

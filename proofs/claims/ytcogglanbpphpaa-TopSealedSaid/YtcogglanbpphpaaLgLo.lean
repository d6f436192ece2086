/-
  Package redo: what lies in the part is taken up (load): contracts, where nothing lies there, and where a log lies there whose root tells of no record.
-/
import Derived.Test.YtcogglanbpphpaaLgFo
import Derived.Test.YtcogglanbpphpaaLgCo
import Derived.Test.YtcogglanbpphpaaLgPc
import Derived.BigRegion
namespace Go.Proofs.Ytcogglanbpphpaa
open Go.RowKit

theorem elemCt : Try.prog.elem 69 = 57 := by simp [Program.elem, Try.underlying69]
/-- all[1:] -/
theorem cut_cts (b n : Nat) (W : World) : (Instr.slice 69 (.slice (some ⟨b, 0, none⟩) (n + 1) (n + 1)) (some (.int .i64 1)) none none).run Try.prog W = .ok (if n = 0 then .slice (some ⟨b, 0, none⟩) n n else .slice (some ⟨b, 6, none⟩) n n) W := by
  obtain ⟨i0, hi, hz0, hz1, hz2⟩ := info_parts Try.infoCt
  rw [run_slice_l W 69 _ (n + 1) (n + 1) (by rw [elemCt]; exact Try.underlying69) .i64 1 (by omega) (by omega), elemCt]
  simp only [sizeOf, typeInfo, Sem.run_bind, Sem.run_pure, Result.andThen, sliced]
  by_cases h : n = 0
  · subst h
    simp [hz1, hi]
  · have : ¬ (n + 1 = 1) := by omega
    simp [hz1, hi, h, add_plain]
/-- What load leaves where nothing lies. -/
def LoZero (w : World) (g p fr se ag st : Nat) (z : Value) (e : Ending) (w' : World) : Prop := e = .returned (.slice none 0 0) ∧ LAt w' g p fr se ag 1 st z ∧ w.grownBy w' (some g)
set_option maxRecDepth 20000 in
set_option maxHeartbeats 2000000 in
theorem load_zero {w : World} {g p fr se ag fi st q r n n1 : Nat} {z : Value} {S : Dk} (h : LAt w g p fr se ag fi st z) (hd : DAt w p q r n S) (h1 : fr + se ≤ n) (hn1 : se = n1 + 1) (h2 : 1 ≤ n1) (hC : ∀ j, j < se → S.now (fr + j) = zs) :
    Calls Try.prog 15 #[.pointer (some ⟨g, 0, none⟩)] w (LoZero w g p fr se ag st z) := by
  have hk := contents_any (C := fun _ => Ct.zero) h hd h1 (by omega) (fun j hj => by rw [hC j hj]; exact sec_zero)
  have hn := hd.most
  have HL := Lib.hid h
  clear h hd hC
  go_enter Try.func15, Try.ntmps15
  go_wp2_with (go_at_call 34; refine hk.mono ?_; rintro e w1 ⟨b, rfl, hB, hbb, hb⟩)
  clear hk
  have hR := hB.row.drew
  have hR1 := (show RowCt w1 b 0 (n1 + 1) (fun _ => Ct.zero) by rw [← hn1]; exact hB.row).tail
  obtain ⟨x0, x1, x2, x3, x4, x5⟩ := hR.get 0 (by omega)
  simp only [Nat.zero_mul, Nat.zero_add, Ct.zero, sv] at x0 x1 x2 x3 x4 x5 hR1
  have hbl := hB.lt
  have y0 : ∀ o, (w1.alloc o).cell? ⟨b, 0, none⟩ = _ := fun o => (World.cell?_alloc_lt w1 o ⟨b, 0, none⟩ hbl).trans x0
  have y1 : ∀ o, (w1.alloc o).cell? ⟨b, 1, none⟩ = _ := fun o => (World.cell?_alloc_lt w1 o ⟨b, 1, none⟩ hbl).trans x1
  have y2 : ∀ o, (w1.alloc o).cell? ⟨b, 2, none⟩ = _ := fun o => (World.cell?_alloc_lt w1 o ⟨b, 2, none⟩ hbl).trans x2
  have y3 : ∀ o, (w1.alloc o).cell? ⟨b, 3, none⟩ = _ := fun o => (World.cell?_alloc_lt w1 o ⟨b, 3, none⟩ hbl).trans x3
  have y4 : ∀ o, (w1.alloc o).cell? ⟨b, 4, none⟩ = _ := fun o => (World.cell?_alloc_lt w1 o ⟨b, 4, none⟩ hbl).trans x4
  have y5 : ∀ o, (w1.alloc o).cell? ⟨b, 5, none⟩ = _ := fun o => (World.cell?_alloc_lt w1 o ⟨b, 5, none⟩ hbl).trans x5
  have hsl := fun W => cut_cts b n1 W
  simp only [if_neg (show ¬ n1 = 0 by omega)] at hsl
  subst hn1
  have HR1 := Lib.hid hR1
  have HB := Lib.hid (show Below w.heap.size w w1.drew from hb.drew)
  have hln : (0 : Int) < ((n1 + 1 : Nat) : Int) := by omega
  clear hR hB hb hR1 hbl
  go_region
  have hK := (Whole.new w1 #[.int .i64 0, .int .i64 0, .int .i64 0, .int .i64 0, .int .i64 0, .string ⟨#[]⟩] 57).drew
  have hBa : Below w1.heap.size w1 (w1.alloc (.cells #[.int .i64 0, .int .i64 0, .int .i64 0, .int .i64 0, .int .i64 0, .string ⟨#[]⟩] 57)).drew := ((Below.refl _ _).alloc (Nat.le_refl _) _).drew
  have hRW := HR1.out.below hBa
  have hBW := (show Below w.heap.size w w1 from ⟨HB.out.os, HB.out.tape, HB.out.output, HB.out.size, HB.out.block⟩).trans (hBa.mono HB.out.size)
  generalize (w1.alloc (.cells #[.int .i64 0, .int .i64 0, .int .i64 0, .int .i64 0, .int .i64 0, .string ⟨#[]⟩] 57)).drew = W at hK hRW hBW ⊢
  have k0 := hK.cell 0
  simp only [List.getElem?_cons_zero] at k0
  have HRW := Lib.hid hRW
  have HBW := Lib.hid hBW
  clear hK hBa hRW hBW x0 x1 x2 x3 x4 x5 y0 y1 y2 y3 y4 y5 HR1 HB hsl
  go_wp2
  clear k0
  go_loopw [23] (fun i wr => ∃ k : Nat, k ≤ n1 ∧ i = .int .i64 (k : Int) ∧ Below W.heap.size W wr) (fun i _ => n1 - (Go.RowKit.intOf i).toNat)
  case atStart => exact ⟨0, Nat.zero_le _, rfl, Below.refl _ _⟩
  case round =>
    obtain ⟨k, hk, rfl, hb⟩ := hrel
    by_cases hlt : k < n1
    · have hR := HRW.out.below hb
      obtain ⟨x0, x1, x2, x3, x4, x5⟩ := hR.get k hlt
      simp only [sv] at x0 x1 x2 x3 x4 x5
      have hbf := hb.alloc hb.size (.cells #[.int .i64 0, .int .i64 0, .int .i64 0, .int .i64 0, .int .i64 0, .string ⟨#[]⟩] 57)
      have hKn := (Whole.new wr #[.int .i64 0, .int .i64 0, .int .i64 0, .int .i64 0, .int .i64 0, .string ⟨#[]⟩] 57)
      have HBF := Lib.hid hbf
      have z0 := hKn.cell 0
      simp only [List.getElem?_cons_zero] at z0
      clear hR hb hbf hKn
      go_wp2_with (go_at_call 35; refine (insist_yes _).mono ?_; rintro e w7 ⟨rfl, hw7⟩; subst hw7)
      exact ⟨⟨k + 1, hlt, by go_num, HBF.out⟩, by simp [Go.RowKit.intOf]; omega⟩
    · obtain rfl : k = n1 := by omega
      have hbw := HBW.out.trans (hb.mono HBW.out.size)
      have hL := HL.out.below hbw
      have c4 := hL.c4
      have f4 := hL.free 4
      have hL2 : LAt (wr.setCell ⟨g, 4, none⟩ (.int .i64 1)) g p fr (k + 1) ag 1 st z := hL.set4 1
      have hg2 : w.grownBy (wr.setCell ⟨g, 4, none⟩ (.int .i64 1)) (some g) := grown_trans (grown_below hbw _) (grown_set _ _ _ _)
      have HF := Lib.hid (And.intro hL2 hg2)
      clear hL hL2 hg2 hbw hb HBW HRW hlt
      go_wp2
      go_ret
      exact ⟨rfl, HF.out.1, HF.out.2⟩
end Go.Proofs.Ytcogglanbpphpaa

/-
  The walk of the law CodeReads.
-/
import Derived.Test.YtllbebbmnjojgaaLawC
import Derived.Test.YtllbebbmnjojgaaLawE0
import Derived.Test.YtllbebbmnjojgaaPlain
import Derived.Lib.ByteType
import Derived.Deep.LoopGhost
namespace Go.Proofs.Ytllbebbmnjojgaa
open Go.RowKit

theorem run_cut {P : Program} {t U : TypeId} (ht : P.underlying t = some (.slice U)) (hinfo : (P.info? U).map (fun i => (i.zero, i.size, i.bytes)) = some (some (.int .u8 0), 1, 1)) (A : Option Addr) (n c k : Nat) (hk : k ≤ n) (hc : n ≤ c) :
    ∃ A' : Option Addr, (∀ W : World, (Instr.slice t (.slice A n c) (some (.int .i64 (k : Int))) none none).run P W = .ok (.slice A' (n - k) (c - k)) W) ∧ (∀ (W : World) (l : List UInt8), Rd W A n l → Rd W A' (n - k) (l.drop k)) := by
  refine ⟨if c = k then A else A.map (·.add k), fun W => ?_, fun W l hr => hr.cut hk hc⟩
  have he : P.elem t = U := by simp [Program.elem, ht]
  rw [run_slice_l W t A n c (by rw [he]; exact ht) .i64 (k : Int) (by omega) (by omega), he, Lib.byte_size hinfo W]
  simp only [Result.andThen, sliced, Int.toNat_natCast, Nat.mul_one]
theorem rnum_le (l : List UInt8) : (rnum l).2.1 ≤ l.length := by
  unfold rnum
  split
  · exact Nat.zero_le _
  · split
    · exact Nat.zero_le _
    · show 4 ≤ l.length
      omega
theorem rint_le (l : List UInt8) : (rint l).2.1 ≤ l.length := by
  unfold rint
  split
  · exact Nat.zero_le _
  · show 8 ≤ l.length
    omega
theorem rtext_le (l : List UInt8) : (rtext l).2.1 ≤ l.length := by
  by_cases h : (rtext l).2.2 = 0
  · obtain ⟨s, hs, _, _, h4⟩ := rtext_one h
    rw [hs]
    exact h4
  · unfold rtext at h ⊢
    split
    · exact Nat.zero_le _
    · split
      · exact Nat.zero_le _
      · split
        · exact Nat.zero_le _
        · rename_i h1 h2 h3
          rw [if_neg h1, if_neg h2, if_neg h3] at h
          exact absurd rfl h

/-- A slice of ints that reads as zs. -/
def Ri (w : World) (A : Option Addr) (n : Nat) (zs : List Int) : Prop :=
  zs.length = n ∧ (0 < n → ∃ b off, A = some ⟨b, off, none⟩ ∧ b < w.heap.size ∧ ∀ j, j < n → w.cell? ⟨b, off + j, none⟩ = some (.int .i64 (zs.getD j 0)))
theorem ri_of_row {w : World} {a : Option Addr} {len cap : Nat} {zs : List Int}
    (h : (a = none ∧ len = 0 ∧ cap = 0 ∧ zs = []) ∨ ∃ x, a = some x ∧ len ≤ cap ∧ cap ≤ maxLen ∧ zs.length = cap ∧ (∀ i, i < zs.length → w.cell? (x.add i) = some (.int .i64 (zs.getD i 0))) ∧ ∀ n ∈ zs, (Lit.int .i64 n).wf = true) :
    Ri w a len (zs.take len) := by
  rcases h with ⟨rfl, rfl, rfl, rfl⟩ | ⟨x, rfl, hl, hm, hz, hc, hw⟩
  · exact ⟨rfl, fun h => absurd h (by omega)⟩
  · refine ⟨by simp; omega, fun hp => ?_⟩
    obtain ⟨b, off, spot⟩ := x
    have h0 := hc 0 (by omega)
    have hspot : spot = none := by simpa [Addr.add] using World.cell?_spot h0
    subst hspot
    have hlt : b < w.heap.size := World.block_lt_of_cell? w _ h0
    refine ⟨b, off, rfl, by simpa [Addr.add] using hlt, fun j hj => ?_⟩
    have := hc j (by omega)
    rw [add_plain] at this
    rw [this]
    simp [List.getD, hj]
theorem Ri.below {w w' : World} {A : Option Addr} {n : Nat} {zs : List Int} (h : Ri w A n zs) (hb : Below w.heap.size w w') : Ri w' A n zs :=
  ⟨h.1, fun hn => by
    obtain ⟨b, off, e, hlt, hc⟩ := h.2 hn
    exact ⟨b, off, e, Nat.lt_of_lt_of_le hlt hb.size, fun j hj => (hb.cell (p := ⟨b, off + j, none⟩) hlt).trans (hc j hj)⟩⟩

/-- The loop's relation: so many asks are answered, and the reader and the place agree. -/
def AskRel (l : List UInt8) (m g : Nat) (w w0 : World) (at_ i : Value) (wr : World) : Prop :=
  ∃ k j : Nat, k ≤ m ∧ j ≤ l.length ∧ i = .int .i64 k ∧ at_ = .int .i64 j ∧ Rdr wr g (l.drop j) ∧ Below w.heap.size w wr ∧ w0.grownBy wr (some g)

theorem only_below {a w w' : World} {r : Option Nat} (h : a.grownBy w r) (hb : Below w.heap.size w w') : a.grownBy w' r :=
  ⟨hb.os.trans h.os, hb.tape.trans h.tape, hb.output.trans h.output, Nat.le_trans h.size hb.size, fun k hk hne => (hb.block k (Nat.lt_of_lt_of_le hk h.size)).trans (h.block k hk hne)⟩
theorem left_drop (g : Nat) (l : List UInt8) (n j kk : Nat) (w : World) (hl : l.length = n) (hjn : j ≤ n) (hkk : kk ≤ n - j) (q : Rdr w g ((l.drop j).drop kk)) :
    Calls Try.prog 28 #[.pointer (some ⟨g, 0, none⟩)] w fun e w' => e = .returned (.int .i64 ((n : Int) - ((j : Int) + (kk : Int)))) ∧ w = w' := by
  have h := left_any g _ w q
  rw [List.length_drop, List.length_drop, hl, show ((n - j - kk : Nat) : Int) = (n : Int) - ((j : Int) + (kk : Int)) from by omega] at h
  exact h

set_option maxRecDepth 100000 in
set_option maxHeartbeats 4000000 in
theorem codeReads_walk (A : Option Addr) (n c : Nat) (l : List UInt8) (B : Option Addr) (m mc : Nat) (zs : List Int) (w : World) (hl : Rd w A n l) (hnc : n ≤ c) (hcm : c ≤ maxLen) (hz : Ri w B m zs) :
    Calls Try.prog 6 #[.slice A n c, .slice B m mc] w (Holds w) := by
  unfold maxLen at hcm
  by_cases hn : 262144 < n
  · have hd : decide (262144 < (n : Int)) = true := by simp; omega
    go_enter Try.func6, Try.ntmps6
    go_wp2
    go_ret
    exact ⟨rfl, Below.refl _ _⟩
  have hd : decide (262144 < (n : Int)) = false := by simp; omega
  by_cases hm : 100 < m
  · have hd2 : decide (100 < (m : Int)) = true := by simp; omega
    go_enter Try.func6, Try.ntmps6
    go_wp2
    go_ret
    exact ⟨rfl, Below.refl _ _⟩
  have hd2 : decide (100 < (m : Int)) = false := by simp; omega
  have Hl := Lib.hid hl.len
  go_enter Try.func6, Try.ntmps6
  go_wp2_with fail
  refine (lent_any A n c l w hl (by omega)).mono ?_
  rintro e w1 ⟨A1, c1, rfl, hc1, hm1, r1, b1⟩
  rw [Hl.out] at hc1 r1 ⊢
  have r1' : Rd w1 A1 n l := by
    have h := r1.take (k := n) (by omega)
    rw [List.take_append_of_le_length (by rw [Hl.out]; omega), List.take_of_length_le (by rw [Hl.out]; omega)] at h
    exact h
  go_wp2_with fail
  refine (new_any A1 n c1 l w1 r1' (by omega)).mono ?_
  rintro e w2 ⟨g, rfl, hg, hlt, q2, b2⟩
  have hb2 := b1.trans (b2.mono b1.size)
  have hgw : w.heap.size ≤ g := Nat.le_trans b1.size hg
  have r2 := r1.below b2
  clear r1' r1
  go_wp2_with fail
  go_loopw [7, 8] (AskRel l m g w w2) (fun _ i _ => m - (intOf i).toNat)
  case atStart => exact ⟨0, 0, Nat.zero_le _, Nat.zero_le _, rfl, rfl, q2, hb2, grown_refl _ _⟩
  case round =>
    obtain ⟨k, j, hk, hj, rfl, rfl, q, hbw, hgr⟩ := hrel
    by_cases hlt : k < m
    · obtain ⟨bb, boff, rfl, hbb, hcz0⟩ := hz.2 (by omega)
      have hcz : w.cell? ⟨bb, boff + k, none⟩ = some (.int .i64 (zs.getD k 0)) := hcz0 k hlt
      rw [← hbw.cell (p := ⟨bb, boff + k, none⟩) hbb] at hcz
      have hjn : j ≤ n := by rw [← Hl.out]; exact hj
      obtain ⟨A2, hsl, hrl⟩ := run_cut (P := Try.prog) Try.underlying22 Try.infoU8 A n c j hjn hnc
      have hkm : (k : Int) < (m : Int) := by omega
      clear hcz0 hj
      by_cases h0 : zs.getD k 0 = 0
      · have hx : wr.cell? ⟨bb, boff + k, none⟩ = some (.int .i64 0) := by rw [hcz, h0]
        clear hcz h0
        go_wp2_with fail
        refine (number_any g (l.drop j) wr q).mono ?_
        rintro e w3 ⟨rfl, q3, s3⟩
        have hbw3 := below_step hbw s3 hbw.size hgw
        have hgr3 := hgr.trans s3
        have hl3 := hl.below hbw3
        go_wp2_with fail
        refine (refReadNumber_any A2 (n - j) (c - j) (l.drop j) w3 (hrl w3 l hl3)).mono ?_
        rintro e w4 ⟨rfl, b4⟩
        have hbw4 := hbw3.trans (b4.mono hbw3.size)
        have hgr4 := only_below hgr3 b4
        have q4 := q3.below b4
        have hkk := rnum_le (l.drop j)
        rw [List.length_drop, Hl.out] at hkk
        have HL := Lib.hid (left_drop g l n j (rnum (l.drop j)).2.1 w4 Hl.out hjn hkk q4)
        rw [List.drop_drop] at q4
        generalize (rnum (l.drop j)).1 = v at *
        generalize (rnum (l.drop j)).2.1 = kk at *
        generalize (rnum (l.drop j)).2.2 = er at *
        clear hx q q3 s3 hl3 b4 hbw hgr hbw3 hgr3 hsl hrl
        go_wp2_with fail
        refine Calls.mono HL.out ?_
        rintro e w5 ⟨rfl, rfl⟩
        go_wp2
        go_roundw
        case rel => exact ⟨k + 1, j + kk, by omega, by rw [Hl.out]; omega, by go_num, by go_num, q4, hbw4, hgr4⟩
        case measure => simp [intOf]; omega
      by_cases h1 : zs.getD k 0 = 1
      · have hx : wr.cell? ⟨bb, boff + k, none⟩ = some (.int .i64 1) := by rw [hcz, h1]
        clear hcz h0 h1
        go_wp2_with fail
        refine (int_any g (l.drop j) wr q).mono ?_
        rintro e w3 ⟨rfl, q3, s3⟩
        have hbw3 := below_step hbw s3 hbw.size hgw
        have hgr3 := hgr.trans s3
        have hl3 := hl.below hbw3
        go_wp2_with fail
        refine (refReadInt_any A2 (n - j) (c - j) (l.drop j) w3 (hrl w3 l hl3)).mono ?_
        rintro e w4 ⟨rfl, b4⟩
        have hbw4 := hbw3.trans (b4.mono hbw3.size)
        have hgr4 := only_below hgr3 b4
        have q4 := q3.below b4
        have hkk := rint_le (l.drop j)
        rw [List.length_drop, Hl.out] at hkk
        have HL := Lib.hid (left_drop g l n j (rint (l.drop j)).2.1 w4 Hl.out hjn hkk q4)
        rw [List.drop_drop] at q4
        generalize (rint (l.drop j)).1 = v at *
        generalize (rint (l.drop j)).2.1 = kk at *
        generalize (rint (l.drop j)).2.2 = er at *
        clear hx q q3 s3 hl3 b4 hbw hgr hbw3 hgr3 hsl hrl
        go_wp2_with fail
        refine Calls.mono HL.out ?_
        rintro e w5 ⟨rfl, rfl⟩
        go_wp2
        go_roundw
        case rel => exact ⟨k + 1, j + kk, by omega, by rw [Hl.out]; omega, by go_num, by go_num, q4, hbw4, hgr4⟩
        case measure => simp [intOf]; omega
      by_cases h2 : zs.getD k 0 = 2
      · have hx : wr.cell? ⟨bb, boff + k, none⟩ = some (.int .i64 2) := by rw [hcz, h2]
        clear hcz h0 h1 h2
        go_wp2_with fail
        refine (text_any g (l.drop j) wr q).mono ?_
        rintro e w3 ⟨rfl, q3, s3⟩
        have hbw3 := below_step hbw s3 hbw.size hgw
        have hgr3 := hgr.trans s3
        have hl3 := hl.below hbw3
        go_wp2_with fail
        refine (refReadText_any A2 (n - j) (c - j) (l.drop j) w3 (hrl w3 l hl3) (by omega) (by unfold maxLen; omega)).mono ?_
        rintro e w4 ⟨rfl, b4⟩
        have hbw4 := hbw3.trans (b4.mono hbw3.size)
        have hgr4 := only_below hgr3 b4
        have q4 := q3.below b4
        have hkk := rtext_le (l.drop j)
        rw [List.length_drop, Hl.out] at hkk
        have HL := Lib.hid (left_drop g l n j (rtext (l.drop j)).2.1 w4 Hl.out hjn hkk q4)
        rw [List.drop_drop] at q4
        generalize (rtext (l.drop j)).1 = v at *
        generalize (rtext (l.drop j)).2.1 = kk at *
        generalize (rtext (l.drop j)).2.2 = er at *
        clear hx q q3 s3 hl3 b4 hbw hgr hbw3 hgr3 hsl hrl
        go_wp2_with fail
        refine Calls.mono HL.out ?_
        rintro e w5 ⟨rfl, rfl⟩
        go_wp2
        go_roundw
        case rel => exact ⟨k + 1, j + kk, by omega, by rw [Hl.out]; omega, by go_num, by go_num, q4, hbw4, hgr4⟩
        case measure => simp [intOf]; omega
      · generalize zs.getD k 0 = z at *
        have e0 : (z == 0) = false := by simpa using h0
        have e1 : (z == 1) = false := by simpa using h1
        have e2 : (z == 2) = false := by simpa using h2
        have HL := Lib.hid (left_drop g l n j 0 wr Hl.out hjn (by omega) q)
        clear h0 h1 h2 hsl hrl
        go_wp2_with fail
        refine Calls.mono HL.out ?_
        rintro e w5 ⟨rfl, rfl⟩
        go_wp2
        go_roundw
        case rel => exact ⟨k + 1, j, by omega, by rw [Hl.out]; omega, by go_num, by go_num, q, hbw, hgr⟩
        case measure => simp [intOf]; omega
    · obtain rfl : k = m := by omega
      have r3 := r2.other q2 hgr
      have hl3 := hl.below hbw
      go_wp2_with fail
      refine (reads_any wr).mono ?_
      rintro e w4 ⟨rfl, b4⟩
      go_wp2_with fail
      refine (kept_yes A1 A n c1 c l w4 (r3.below b4) hc1 hm1 (hl3.below b4)).mono ?_
      rintro e w5 ⟨rfl, rfl⟩
      go_wp2
      go_ret
      exact ⟨rfl, hbw.trans (b4.mono hbw.size)⟩
end Go.Proofs.Ytllbebbmnjojgaa

/-
  What the document's own answers for layer 2 do: contracts, one a function.
-/
import Derived.Test.YtpainpekapnbhaaSumR
import Derived.Test.YtpainpekapnbhaaEight
import Derived.BigQuiet
import Derived.Deep.RegionWith
import Derived.Deep.DeepCutAuto
namespace Go.Proofs.Ytpainpekapnbhaa
open Go.RowKit

theorem not_num2 (v : BitVec 32) : bits .xor .u32 (v.toNat : Int) 4294967295 = ((~~~v).toNat : Int) := by
  have h1 := v.isLt
  rw [u32_xor _ _ (by omega) (by omega) (by omega) (by omega), ← BitVec.xor_allOnes, BitVec.toNat_xor, Int.toNat_natCast]
  rfl
theorem be_drop {s : Nat} : (be 8 s).drop 4 = be 4 s := by
  rw [be8, be4]; rfl

set_option maxHeartbeats 400000 in
theorem refSum_any (A : Option Addr) (n c : Nat) (l : List UInt8) (w : World) (hb : Rd w A n l) (hn : n ≤ 70368744177664) :
    Calls Try.prog 15 #[.slice A n c] w fun e w' => e = .returned (.int .i64 ((sumOf l).toNat : Int)) ∧ w = w' := by
  have h := refWord_any (~~~0#32) A n c l w hb hn
  rw [show (((~~~0#32).toNat : Nat) : Int) = 4294967295 from rfl] at h
  have Hn := Lib.hid (not_num2 (wrd (~~~0#32) l))
  go_enter Try.func15, Try.ntmps15
  go_wp2_with fail
  refine h.mono ?_
  rintro e w1 ⟨rfl, rfl⟩
  clear h
  have hv : wrap64 (bits .xor .u32 ((wrd (~~~0#32) l).toNat : Int) 4294967295) = ((sumOf l).toNat : Int) := by
    rw [Hn.out]
    have hlt := (sumOf l).isLt
    show wrap64 ((sumOf l).toNat : Int) = _
    unfold wrap64; omega
  have Hv := Lib.hid hv
  clear hv
  go_wp2
  go_ret
  exact ⟨congrArg (fun m => Ending.returned (.int .i64 m)) Hv.out, rfl⟩

set_option maxHeartbeats 400000 in
theorem refMore_no (m : Int) (y : Value) (w : World) (h : m < 0 ∨ 4294967295 < m) :
    Calls Try.prog 12 #[.int .i64 m, y] w fun e w' => e = .returned (.tuple #[.int .i64 0, .int .i64 1]) ∧ w = w' := by
  by_cases h0 : m < 0
  · go_enter Try.func12, Try.ntmps12
    go_wp2
    go_ret2
    exact ⟨rfl, rfl⟩
  · have h2 : 4294967295 < m := by omega
    have h3 : decide (m < 0) = false := by simp; omega
    go_enter Try.func12, Try.ntmps12
    go_wp2
    go_ret2
    exact ⟨rfl, rfl⟩

set_option maxHeartbeats 400000 in
theorem refMore_yes (s : BitVec 32) (A : Option Addr) (n c : Nat) (l : List UInt8) (w : World) (hb : Rd w A n l) (hn : n ≤ 70368744177664) :
    Calls Try.prog 12 #[.int .i64 (s.toNat : Int), .slice A n c] w fun e w' => e = .returned (.tuple #[.int .i64 ((crc s l).toNat : Int), .int .i64 0]) ∧ w = w' := by
  have h := refWord_any (~~~s) A n c l w hb hn
  have Hs := Lib.hid (not_num2 s)
  have Hn := Lib.hid (not_num2 (wrd (~~~s) l))
  have hs := s.isLt
  have h0 : decide ((s.toNat : Int) < 0) = false := by simp
  have h1 : decide (4294967295 < (s.toNat : Int)) = false := by simp; omega
  go_enter Try.func12, Try.ntmps12
  go_wp2_with fail
  rw [Hs.out]
  refine h.mono ?_
  rintro e w1 ⟨rfl, rfl⟩
  clear h
  have hv : wrap64 (bits .xor .u32 ((wrd (~~~s) l).toNat : Int) 4294967295) = ((crc s l).toNat : Int) := by
    rw [Hn.out]
    have hlt := (crc s l).isLt
    show wrap64 ((crc s l).toNat : Int) = _
    unfold wrap64; omega
  have Hv := Lib.hid hv
  clear hv
  go_wp2
  go_ret2
  exact ⟨congrArg (fun m => Ending.returned (.tuple #[.int .i64 m, .int .i64 0])) Hv.out, rfl⟩

set_option maxHeartbeats 400000 in
theorem refSeal_any (A : Option Addr) (n c : Nat) (l : List UInt8) (w : World) (hb : Rd w A n l) (hn : n ≤ 70368744177664) :
    Calls Try.prog 18 #[.slice A n c] w (Gives w (sealOf l)) := by
  obtain ⟨v1, w1, hap, hown1, hg1, _⟩ := run_app (P := Try.prog) w.heap.size 22 22 5 Try.underlying22 Try.infoU8 (.slice none 0 0) [] Own.nil A n c l hb (by simp; omega) (Nat.le_refl _)
  rw [List.nil_append] at hown1
  have hb1 := below_app (Below.refl w.heap.size w) (Own.nil (U := 5)) hg1 (Nat.le_refl _)
  have Hl := Lib.hid hb.len
  go_enter Try.func18, Try.ntmps18
  go_wp2_with (at_builtin; refine wpList_append_run hap rfl _ _ rfl rfl rfl rfl ?_)
  clear hap hg1
  refine (refSum_any A n c l w1 (hb.below hb1) hn).mono ?_
  rintro e w2 ⟨rfl, rfl⟩
  go_wp2_with fail
  refine (eight_any ((sumOf l).toNat : Int) w1).mono ?_
  rintro e w3 ⟨v3, rfl, hown3, hb3⟩
  have hu : u64n ((sumOf l).toNat : Int) = (sumOf l).toNat := by
    have := (sumOf l).isLt
    unfold u64n; omega
  rw [hu] at hown3
  obtain ⟨A3, c3, rfl, hl3, hm3, r3⟩ := hown3.shapeN (n := 8) (be_length _ _)
  clear hown3 hu
  obtain ⟨A4, hsl, hrl⟩ := run_cut (P := Try.prog) Try.underlying22 Try.infoU8 A3 8 c3 4 (by omega) hl3
  have r4 := hrl w3 _ r3
  rw [be_drop] at r4
  have hown3 := hown1.below (hb3.mono (Nat.le_refl _))
  obtain ⟨v5, w5, hap5, hown5, hg5, _⟩ := run_app (P := Try.prog) w.heap.size 22 22 5 Try.underlying22 Try.infoU8 v1 l hown3 A4 4 (c3 - 4) (be 4 (sumOf l).toNat) r4 (by rw [Hl.out]; omega) (Nat.le_trans hb1.size hb3.size)
  have hb5 := below_app (hb1.trans (hb3.mono hb1.size)) hown3 hg5 (Nat.le_trans hb1.size hb3.size)
  have hs4 := hsl w3
  rw [show ((4 : Nat) : Int) = 4 from rfl, show 8 - 4 = 4 from rfl] at hs4
  clear hsl hrl r3 r4 hown1 hown3 hg5
  go_wp2_with (at_builtin; refine wpList_append_run hap5 rfl _ _ rfl rfl rfl rfl ?_)
  go_ret
  exact ⟨v5, rfl, hown5, hb5⟩

set_option maxHeartbeats 400000 in
theorem refOpen_short (A : Option Addr) (n c : Nat) (w : World) (h : n < 4) :
    Calls Try.prog 21 #[.slice A n c] w (Refused w 20) := by
  have hd : decide ((n : Int) - 4 < 0) = true := by simp; omega
  go_enter Try.func21, Try.ntmps21
  go_wp2_with fail
  go_quiet (fail)
  go_wp2
  go_ret2
  exact ⟨rfl, below_drewN (Below.refl _ _) _⟩

/-- What Seal leaves, as the caller reads it. -/
def SealPost (n : Nat) (l : List UInt8) (w : World) (e : Ending) (w' : World) : Prop := ∃ A c, e = .returned (.slice A n c) ∧ Rd w' A n l ∧ Below w.heap.size w w'

set_option maxHeartbeats 1000000 in
theorem refOpen_any (A : Option Addr) (k c : Nat) (l : List UInt8) (w : World) (hb : Rd w A (k + 4) l) (hc : k + 4 ≤ c) (_hm : c ≤ maxLen) (hn : k + 4 ≤ 70368744177664) :
    Calls Try.prog 21 #[.slice A (k + 4) c] w
      fun e w' => (sealOf (l.take k) = l ∧ e = .returned (.tuple #[.slice A k c, .int .i64 0]) ∧ Below w.heap.size w w') ∨ (sealOf (l.take k) ≠ l ∧ Refused w 20 e w') := by
  unfold maxLen at _hm
  have hr : Rd w A k (l.take k) := hb.take (by omega)
  obtain ⟨r, hrd⟩ : ∃ r, r = l.take k := ⟨_, rfl⟩
  rw [← hrd] at hr ⊢
  have Hl := Lib.hid hr.len
  clear hrd
  have HC : Hid (∀ W : World, Below w.heap.size w W → Calls Try.prog 18 #[.slice A k c] W (SealPost (k + 4) (sealOf r) W)) := Lib.hid fun W hW => by
    refine (refSeal_any A k c r W (hr.below hW) (by omega)).mono ?_
    rintro e w1 ⟨v1, rfl, o1, b1⟩
    obtain ⟨A1, c1, rfl, _, _, r1⟩ := o1.shapeN (n := k + 4) (by unfold sealOf; rw [List.length_append, be_length, Hl.out])
    exact ⟨A1, c1, rfl, r1, b1⟩
  have hd : decide ((k : Int) < 0) = false := by simp
  have k1 := hb.conv (P := Try.prog) c 22 5 9 Try.underlying22 Try.underlying5 Try.underlying9
  have k2 := hb.drew.conv (P := Try.prog) c 22 5 9 Try.underlying22 Try.underlying5 Try.underlying9
  go_enter Try.func21, Try.ntmps21
  go_wp2_with fail
  go_region_with (go_at_call 18; refine Calls.mono (HC.out _ (by first | exact (Below.refl _ _).drew | exact Below.refl _ _)) ?_; rintro e w1 ⟨A1, c1, rfl, r1, b1⟩; have k3 := r1.conv (P := Try.prog) c1 22 5 9 Try.underlying22 Try.underlying5 Try.underlying9; have k4 := (hb.below ((Below.refl _ _).drew.trans b1)).conv (P := Try.prog) c 22 5 9 Try.underlying22 Try.underlying5 Try.underlying9)
  all_goals
    clear k1 k2 k3 k4 r1 HC
    generalize hx : (sealOf r == l) = x
    have Hx := Lib.hid hx
    clear hx
    cases x
    · go_wp2
      go_ret2
      exact .inr ⟨beq_eq_false_iff_ne.1 Hx.out, rfl, (Below.refl _ _).drew.trans b1⟩
    · go_wp2
      go_ret2
      exact .inl ⟨beq_iff_eq.1 Hx.out, rfl, (Below.refl _ _).drew.trans b1⟩
end Go.Proofs.Ytpainpekapnbhaa

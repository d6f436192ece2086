/-
  What the document's own Read of layer 3 does: contracts.
-/
import Derived.Test.YtjfcgjmiianmkaaDoorBitsT
namespace Go.Proofs.YtjfcgjmiianmkaaDoor
open Go.RowKit

/-- A byte halved so often; a plain definition, so that the walk leaves it as it stands. -/
def dw (x k : Nat) : Nat := x / 2 ^ k
theorem dw_zero (x : Nat) : dw x 0 = x := by simp [dw]
theorem dw_succ (x k : Nat) : ((dw x k : Nat) : Int) / 2 = ((dw x (k + 1) : Nat) : Int) := by unfold dw; rw [Nat.pow_succ, ← Nat.div_div_eq_div_mul]; omega
theorem dw_le (x k : Nat) : dw x k ≤ x := Nat.div_le_self _ _
theorem dw_bit (x k : Nat) : (((dw x k : Nat) : Int) % 2 == 1) = x.testBit k := by
  rw [Nat.testBit_eq_decide_div_mod_eq]
  unfold dw
  rcases Nat.mod_two_eq_zero_or_one (x / 2 ^ k) with h | h
  · rw [show ((x / 2 ^ k : Nat) : Int) % 2 = 0 by omega, h]; rfl
  · rw [show ((x / 2 ^ k : Nat) : Int) % 2 = 1 by omega, h]; rfl
def NoneB (w : World) (er : Int) (e : Ending) (w' : World) : Prop := e = .returned (.tuple #[.slice none 0 0, .int .i64 er]) ∧ Below w.heap.size w w'
def RefReadRel (n : Nat) (b : List UInt8) (w : World) (out i : Value) (wr : World) : Prop :=
  ∃ k : Nat, k ≤ n ∧ i = .int .i64 (k : Int) ∧ OwnV 4 wr w.heap.size out (bls (bitsOf k b)) ∧ Below w.heap.size w wr

set_option maxHeartbeats 1000000 in
theorem refRead_out (n : Int) (A : Option Addr) (m c : Nat) (w : World) (h : ¬ ((0 ≤ n ∧ n ≤ 4096) ∧ m = (n.toNat + 7) / 8)) :
    Calls Tryd.prog 25 #[.int .i64 n, .slice A m c] w (NoneB w 1) := by
  have M := may_any n w
  by_cases h1 : 0 ≤ n ∧ n ≤ 4096
  · rw [decide_eq_true h1] at M
    obtain ⟨i, rfl⟩ := Int.eq_ofNat_of_zero_le h1.1
    obtain ⟨z, hz⟩ : ∃ z, z = (i + 7) / 8 := ⟨_, rfl⟩
    have e1 : ((i : Int) + 7) / 8 = (z : Int) := by omega
    have t1 : ((m : Int) != (z : Int)) = true := by
      have : m ≠ z := fun e => h ⟨h1, by rw [Int.toNat_natCast]; omega⟩
      simp; omega
    have hi4 : i ≤ 4096 := by omega
    clear h h1 hz
    go_enter Tryd.func25, Tryd.ntmps25
    go_wp2_with (go_at_call 12; refine M.mono ?_; rintro e w1 ⟨rfl, rfl⟩)
    go_ret2
    exact ⟨rfl, Below.refl _ _⟩
  · rw [decide_eq_false h1] at M
    clear h h1
    go_enter Tryd.func25, Tryd.ntmps25
    go_wp2_with (go_at_call 12; refine M.mono ?_; rintro e w1 ⟨rfl, rfl⟩)
    go_ret2
    exact ⟨rfl, Below.refl _ _⟩

/-- Bytes that a call hands back, as the caller reads them. -/
def SealLike (n : Nat) (l : List UInt8) (w : World) (e : Ending) (w' : World) : Prop := ∃ A c, e = .returned (.slice A n c) ∧ Rd w' A n l ∧ Below w.heap.size w w'
def RefReadPost (n : Nat) (b : List UInt8) (w : World) (e : Ending) (w' : World) : Prop := (bytesL (bitsOf n b) = b ∧ GivesB w (bitsOf n b) 0 e w') ∨ (bytesL (bitsOf n b) ≠ b ∧ NoneB w 1 e w')

set_option maxHeartbeats 2000000 in
theorem refRead_in (n : Nat) (A : Option Addr) (m c : Nat) (b : List UInt8) (w : World) (hb : Rd w A m b) (hn : n ≤ 4096) (hm : m = (n + 7) / 8) :
    Calls Tryd.prog 25 #[.int .i64 (n : Int), .slice A m c] w (RefReadPost n b w) := by
  have M := may_any (n : Int) w
  rw [decide_eq_true (show (0 : Int) ≤ (n : Int) ∧ (n : Int) ≤ 4096 by omega)] at M
  have e1 : ((n : Int) + 7) / 8 = (m : Int) := by omega
  have t1 : ((m : Int) != (m : Int)) = false := by simp
  have Hm := Lib.hid hm
  have Hlb := Lib.hid hb.len
  clear hm
  go_enter Tryd.func25, Tryd.ntmps25
  go_wp2_with (go_at_call 12; refine M.mono ?_; rintro e w1 ⟨rfl, rfl⟩)
  clear M e1 t1
  go_loopw [6, 7] (RefReadRel n b w) (fun _ i _ => n - (intOf i).toNat)
  case atStart => exact ⟨0, Nat.zero_le _, rfl, by simpa [bitsOf, bls] using OwnV.nil, Below.refl _ _⟩
  case round =>
    obtain ⟨i, hi, rfl, ho, b1⟩ := hrel
    by_cases hlt : i < n
    · obtain ⟨r, hre⟩ : ∃ r, r = i % 8 := ⟨_, rfl⟩
      obtain ⟨q, hqe⟩ : ∃ q, q = i / 8 := ⟨_, rfl⟩
      have hqm : q < m := by have := Hm.out; omega
      have hm512 : m ≤ 512 := by have := Hm.out; omega
      have e1 : (i : Int) % 8 = (r : Int) := by omega
      have e2 : (i : Int) / 8 = (q : Int) := by omega
      have hr7 : r ≤ 7 := by omega
      have hsz := b1.size
      obtain ⟨bb, off, y, rfl, _, hy, cy⟩ := (hb.below b1).cell hqm
      have hsn := bitsOf_snoc i b
      rw [← hqe, ← hre, List.getD_eq_getElem?_getD, hy, Option.getD_some, ← dw_bit y.toNat r] at hsn
      have hyl : y.toNat < 256 := y.toNat_lt
      obtain ⟨v2, w2, hap, ho2, b2⟩ := run_app_oneV (P := Tryd.prog) w.heap.size 29 29 4 Tryd.underlying29 Tryd.infoBool rfl _ _ ho (.bool (((dw y.toNat r : Nat) : Int) % 2 == 1)) rfl (by rw [bls_length, bitsOf_length]; omega) hsz
      rw [bls_snoc, ← hsn] at ho2
      have b12 := b1.trans b2
      have Ho2 := Lib.hid ho2
      have H0 := Lib.hid (dw_zero y.toNat)
      clear hre hqe hy hsn ho ho2
      go_wp2_with fail
      clear cy
      go_loop [8, 9] (fun v k => ∃ j : Nat, j ≤ r ∧ k = .int .i64 (j : Int) ∧ v = .int .i64 (dw y.toNat j : Int)) (fun _ k => r - (intOf k).toNat)
      case atStart => exact ⟨0, Nat.zero_le _, rfl, by rw [H0.out]⟩
      case round =>
        obtain ⟨j, hj, rfl, rfl⟩ := hrel
        have hdj := dw_le y.toNat j
        by_cases hjr : j < r
        · have Hs := Lib.hid (dw_succ y.toNat j)
          clear hap
          go_wp2
          refine ⟨⟨j + 1, by omega, by go_num, by rw [Hs.out]⟩, by simp [intOf]; omega⟩
        · obtain rfl : j = r := by omega
          go_wp2_with (at_builtin; refine wpList_append_run hap rfl _ _ rfl rfl rfl rfl ?_)
          exact ⟨⟨i + 1, by omega, by go_num, Ho2.out, b12⟩, by simp [intOf]; omega⟩
    · obtain rfl : i = n := by omega
      obtain ⟨A1, c1, rfl, _, _, r1⟩ := ho.shape (n := i) (by rw [bls_length, bitsOf_length])
      have hsz := b1.size
      have HC : Hid (∀ W : World, Below wr.heap.size wr W → Calls Tryd.prog 22 #[.slice A1 i c1] W (SealLike m (bytesL (bitsOf i b)) W)) := Lib.hid fun W hW => by
        refine (refBytes_any A1 i c1 (bitsOf i b) W (RdB.below r1 hW) hn).mono ?_
        rintro e w1 ⟨v1, rfl, o1, b1⟩
        obtain ⟨A2, c2, rfl, _, _, r2⟩ := o1.shapeN (n := m) (by rw [bytesL_length, bitsOf_length, Hm.out])
        exact ⟨A2, c2, rfl, r2, b1⟩
      have hb1 := hb.below b1
      have k1 := hb1.conv (P := Tryd.prog) c 39 5 9 Tryd.underlying39 Tryd.underlying5 Tryd.underlying9
      have k2 := hb1.drew.conv (P := Tryd.prog) c 39 5 9 Tryd.underlying39 Tryd.underlying5 Tryd.underlying9
      have Ho := Lib.hid ho
      clear ho r1
      go_wp2_with fail
      go_region_with (go_at_call 22; refine Calls.mono (HC.out _ (by first | exact (Below.refl _ _).drew | exact Below.refl _ _)) ?_; rintro e w1 ⟨A2, c2, rfl, r2, b2⟩; have b2' : Below wr.heap.size wr w1 := (by first | exact (Below.refl _ _).drew.trans b2 | exact b2); have k3 := r2.conv (P := Tryd.prog) c2 39 5 9 Tryd.underlying39 Tryd.underlying5 Tryd.underlying9; have k4 := (hb1.below b2').conv (P := Tryd.prog) c 39 5 9 Tryd.underlying39 Tryd.underlying5 Tryd.underlying9)
      all_goals
        clear k1 k2 k3 k4 r2 HC
        generalize hx : (bytesL (bitsOf i b) == b) = x
        have Hx := Lib.hid hx
        clear hx
        have b3 := b1.trans (b2'.mono hsz)
        have o3 := Ho.out.below b2'
        cases x
        · go_wp2
          go_ret2
          exact .inr ⟨beq_eq_false_iff_ne.1 Hx.out, rfl, b3⟩
        · go_wp2
          go_ret2
          exact .inl ⟨beq_iff_eq.1 Hx.out, _, rfl, o3, b3⟩

theorem refRead_no (n : Int) (A : Option Addr) (m c : Nat) (b : List UInt8) (w : World) (hb : Rd w A m b) (h : readB n b = false) :
    Calls Tryd.prog 25 #[.int .i64 n, .slice A m c] w (NoneB w 1) := by
  by_cases h1 : (0 ≤ n ∧ n ≤ 4096) ∧ m = (n.toNat + 7) / 8
  · obtain ⟨i, rfl⟩ := Int.eq_ofNat_of_zero_le h1.1.1
    rw [Int.toNat_natCast] at h1
    refine (refRead_in i A m c b w hb (by omega) h1.2).mono fun e w' hd => ?_
    rcases hd with ⟨h2, _⟩ | ⟨_, h2⟩
    · have hl : b.length = (i + 7) / 8 := by rw [hb.len]; exact h1.2
      have h3 := (bytesL_bitsOf hl).1 h2
      have h4 : readB (i : Int) b = true := readB_iff.2 ⟨h1.1, by rw [Int.toNat_natCast]; exact hl, by rw [Int.toNat_natCast]; exact h3⟩
      rw [h] at h4
      cases h4
    · exact h2
  · exact refRead_out n A m c w h1
theorem refRead_yes (i : Nat) (A : Option Addr) (m c : Nat) (b : List UInt8) (w : World) (hb : Rd w A m b) (h : readB (i : Int) b = true) :
    Calls Tryd.prog 25 #[.int .i64 (i : Int), .slice A m c] w (GivesB w (bitsOf i b) 0) := by
  obtain ⟨h1, h2, h3⟩ := readB_iff.1 h
  rw [Int.toNat_natCast] at h2 h3
  refine (refRead_in i A m c b w hb (by omega) (by rw [← hb.len]; exact h2)).mono fun e w' hd => ?_
  rcases hd with ⟨_, h4⟩ | ⟨h4, _⟩
  · exact h4
  · exact absurd ((bytesL_bitsOf h2).2 h3) h4
end Go.Proofs.YtjfcgjmiianmkaaDoor

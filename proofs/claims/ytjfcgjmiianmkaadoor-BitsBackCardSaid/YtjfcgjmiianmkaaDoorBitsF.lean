/-
  What Bytes does: contracts, one a function; and what it hands back is the call's own.
-/
import Derived.Test.YtjfcgjmiianmkaaDoorBitsE
namespace Go.Proofs.YtjfcgjmiianmkaaDoor
open Go.RowKit

/-- A row of bytes that is filled from the front. -/
def fillB (bs : List UInt8) (z k : Nat) : List UInt8 := bs.take k ++ List.replicate (z - k) 0
theorem fillB_length {bs : List UInt8} {z : Nat} (hl : bs.length = z) {k : Nat} (hk : k ≤ z) : (fillB bs z k).length = z := by
  unfold fillB
  rw [List.length_append, List.length_take, List.length_replicate]
  omega
theorem fillB_step {bs : List UInt8} {z k : Nat} {x : UInt8} (hl : bs.length = z) (hk : k < z) (hx : bs[k]? = some x) : (fillB bs z k).set k x = fillB bs z (k + 1) := by
  unfold fillB
  have h1 : (bs.take k).length = k := by rw [List.length_take]; omega
  rw [List.set_append, if_neg (by omega), h1, Nat.sub_self, show z - k = (z - (k + 1)) + 1 from by omega, List.replicate_succ, List.set_cons_zero, List.take_add_one, hx, List.append_assoc]
  rfl
theorem fillB_all {bs : List UInt8} {z : Nat} (hl : bs.length = z) : fillB bs z z = bs := by
  unfold fillB
  rw [Nat.sub_self, List.replicate_zero, List.append_nil, List.take_of_length_le (by omega)]
theorem fillB_own {U : TypeId} (w : World) (bs : List UInt8) (z : Nat) (hz : z ≤ maxLen) : Own U (w.alloc (.cells (zcells z).toArray U)) w.heap.size (.slice (some ⟨w.heap.size, 0, none⟩) z z) (fillB bs z 0) := by
  have h := Own.of_row (U := U) (w := w.alloc (.cells (zcells z).toArray U)) (base := w.heap.size) (l := List.replicate z 0) (heap_alloc_new w _) (Nat.le_refl _) (by simp) hz (zcells_length z) (by simp [zcells, bvs, bv])
  rw [List.length_replicate] at h
  simpa [fillB] using h
def FillB (bs : List UInt8) (z : Nat) (w : World) (i : Value) (wr : World) : Prop :=
  ∃ k : Nat, k ≤ z ∧ i = .int .i64 k ∧ Own 5 wr w.heap.size (.slice (some ⟨w.heap.size, 0, none⟩) z z) (fillB bs z k) ∧ Below w.heap.size w wr

set_option maxHeartbeats 1000000 in
theorem bytes_any (g h : Nat) (l : List Bool) (w : World) (m : MapAt w g h l) :
    Calls Tryd.prog 18 #[.pointer (some ⟨g, 0, none⟩)] w (Gives w (bytesL l)) := by
  obtain ⟨ws, h1, h2, hw, hl⟩ := id m
  have c0 := h1.cell 0
  have c1 : ∀ wr : World, Below w.heap.size w wr → wr.cell? ⟨g, 1, none⟩ = some (.slice (some ⟨h, 0, none⟩) ws.length ws.length) := fun wr hb => (h1.below hb).cell 1
  have u := units_any l.length 8 (by omega) (by omega) (by omega) w
  rw [show l.length + 8 - 1 = l.length + 7 by omega] at u
  have hlen := bytesL_length l
  obtain ⟨z, hz⟩ : ∃ z, z = (l.length + 7) / 8 := ⟨_, rfl⟩
  obtain ⟨n, hn⟩ : ∃ n, n = l.length := ⟨_, rfl⟩
  obtain ⟨k, hk⟩ : ∃ k, k = ws.length := ⟨_, rfl⟩
  obtain ⟨bs, hbs⟩ : ∃ bs, bs = bytesL l := ⟨_, rfl⟩
  have hzk : ∀ i, i < z → i / 8 < k := fun i hi => by have := hw.len; omega
  have hz5 : z ≤ 512 := by omega
  have hmk := run_make_bytes (P := Tryd.prog) Tryd.underlying39 Tryd.infoU8 z z (Nat.le_refl _) (by omega) w
  have o0 := fillB_own (U := 5) w bs z (by simp only [maxLen]; omega)
  have b0 : Below w.heap.size w (w.alloc (.cells (zcells z).toArray 5)) := (Below.refl _ _).alloc (Nat.le_refl _) _
  rw [← hz] at u hlen
  rw [← hbs] at hlen ⊢
  rw [← hn] at u c0
  rw [← hk] at c1
  have Hbs := Lib.hid hbs
  have Hlen := Lib.hid hlen
  have Hk := Lib.hid hk
  have Hz := Lib.hid hz
  have C1 := Lib.hid c1
  have Hzk := Lib.hid hzk
  clear h1 hz hn hk hbs hlen c1 hzk
  go_enter Tryd.func18, Tryd.ntmps18
  go_wp2_with (go_at_call 27; refine u.mono ?_; rintro e w1 ⟨rfl, rfl⟩)
  clear c0 u hmk
  go_loopw [15] (FillB bs z w) (fun i _ => z - (intOf i).toNat)
  case atStart => exact ⟨0, Nat.zero_le _, rfl, o0, b0⟩
  case round =>
    clear o0 b0
    obtain ⟨i, hi, rfl, o1, b1⟩ := hrel
    by_cases hlt : i < z
    · have hq := Hzk.out i hlt
      have c1 := C1.out wr b1
      have hqw : i / 8 < ws.length := by rw [← Hk.out]; exact hq
      obtain ⟨x, hx⟩ : ∃ x, ws[i / 8]? = some x := ⟨_, List.getElem?_eq_getElem hqw⟩
      have hxl := hw.lt _ _ hx
      have cx := (h2.below b1).cell (i / 8)
      rw [wvs_get hx] at cx
      have hb := hw.byte hx
      have hbi : bs[i]? = some (UInt8.ofNat (byteN fun k => isOn l (8 * i + k))) := by rw [Hbs.out]; exact bytesL_get (by rw [← Hz.out]; exact hlt)
      obtain ⟨y, hy⟩ : ∃ y, y = UInt8.ofNat (byteN fun k => isOn l (8 * i + k)) := ⟨_, rfl⟩
      rw [← hy] at hbi
      have hyn : (y.toNat : Int) = ((byteN fun k => isOn l (8 * i + k) : Nat) : Int) := by rw [hy, ofNat_byteN]
      obtain ⟨q, hqe⟩ : ∃ q, q = i / 8 := ⟨_, rfl⟩
      obtain ⟨r, hre⟩ : ∃ r, r = i % 8 := ⟨_, rfl⟩
      obtain ⟨s, hse⟩ : ∃ s, s = r * 8 := ⟨_, rfl⟩
      have e1 : (i : Int) / 8 = (q : Int) := by omega
      have e2 : (i : Int) % 8 = (r : Int) := by omega
      have e3 : (r : Int) * 8 = (s : Int) := by omega
      have e4 : min s 64 = s := by omega
      have e5 : (x : Int) / (2 : Int) ^ s % 256 = (y.toNat : Int) := by
        rw [hyn, ← hb, hse, hre]
        simp
      rw [← hqe] at cx hq
      have Hl := fillB_length Hlen.out (Nat.le_of_lt hlt)
      obtain ⟨uu, _, cu⟩ := o1.cell Hl hlt
      have fu := o1.free Hl i
      have o2 := o1.set Hl i y
      rw [fillB_step Hlen.out hlt hbi] at o2
      have b2 := b1.setCell (p := ⟨w.heap.size, i, none⟩) (Nat.le_refl _) (bv y)
      have hq64 : q ≤ 512 := by omega
      clear hx hb hbi hy hyn hqe hre hse Hl o1 hqw
      go_wp2
      exact ⟨⟨i + 1, by omega, by go_num, o2, b2⟩, by simp [intOf]; omega⟩
    · obtain rfl : i = z := by omega
      rw [fillB_all Hlen.out] at o1
      go_wp2
      go_ret
      exact ⟨_, rfl, o1, b1⟩
set_option maxHeartbeats 400000 in
theorem bytes_nil (w : World) : Calls Tryd.prog 18 #[.pointer none] w fun e w' => e = .returned (.slice none 0 0) ∧ w = w' := by
  go_enter Tryd.func18, Tryd.ntmps18
  go_wp2
  go_ret
  exact ⟨rfl, rfl⟩

set_option maxHeartbeats 400000 in
theorem behind_any (n : Nat) (A : Option Addr) (k c : Nat) (b : List UInt8) (w : World) (hb : Rd w A k b) (hl : k = (n + 7) / 8) (hn : n ≤ 4096) :
    Calls Tryd.prog 33 #[.int .i64 (n : Int), .slice A k c] w fun e w' => e = .returned (.bool (behindB n b)) ∧ w = w' := by
  obtain ⟨r, hre⟩ : ∃ r, r = n % 8 := ⟨_, rfl⟩
  have e2 : (n : Int) % 8 = (r : Int) := by omega
  by_cases h0 : r = 0
  · have e : behindB n b = false := by unfold behindB; rw [← hre, h0]; rfl
    rw [e]
    subst h0
    have e2' : (n : Int) % 8 = 0 := by omega
    clear e hl hre e2
    go_enter Tryd.func33, Tryd.ntmps33
    go_wp2
    go_ret
    exact ⟨rfl, rfl⟩
  · obtain ⟨q, hqe⟩ : ∃ q, q = n / 8 := ⟨_, rfl⟩
    have hq : q < k := by omega
    obtain ⟨bb, off, x, rfl, _, hx, hc⟩ := hb.cell hq
    have e : behindB n b = decide (x.toNat / 2 ^ r ≠ 0) := by
      unfold behindB
      rw [← hre, ← hqe, List.getD_eq_getElem?_getD, hx, decide_eq_true h0]
      rfl
    rw [e]
    obtain ⟨y, hy⟩ : ∃ y, y = x.toNat / 2 ^ r := ⟨_, rfl⟩
    rw [← hy]
    have e1 : (n : Int) / 8 = (q : Int) := by omega
    have e3 : min r 8 = r := by omega
    have e4 : (x.toNat : Int) / (2 : Int) ^ r = (y : Int) := by rw [hy]; simp
    have t1 : ((r : Int) != 0) = true := by simp; omega
    have t2 : ((r : Int) == 0) = false := by simp; omega
    have hq5 : q ≤ 512 := by omega
    have e5 : ((y : Int) != 0) = decide (y ≠ 0) := by
      by_cases hy0 : y = 0
      · simp [hy0]
      · simp [hy0]
    have E5 := Lib.hid e5
    clear e hl hre hqe hx hy hb e5 h0
    go_enter Tryd.func33, Tryd.ntmps33
    go_wp2
    go_ret
    exact ⟨congrArg (fun z => Ending.returned (.bool z)) E5.out, rfl⟩

/-- What joinWords hands back: a block of its own, whole. -/
def JoinsW (w : World) (b : List UInt8) (e : Ending) (w' : World) : Prop := ∃ ws, e = .returned (.slice (some ⟨w.heap.size, 0, none⟩) ws.length ws.length) ∧ Joined b b.length ws ∧ Whole w' w.heap.size 61 (wvs ws) ∧ Below w.heap.size w w'
def JoinRel (b : List UInt8) (w : World) (z : Nat) (i : Value) (wr : World) : Prop := ∃ (k : Nat) (ws : List Nat), k ≤ b.length ∧ i = .int .i64 k ∧ ws.length = z ∧ Joined b k ws ∧ Whole wr w.heap.size 61 (wvs ws) ∧ Below w.heap.size w wr

set_option maxHeartbeats 1000000 in
theorem join_any (A : Option Addr) (n c : Nat) (b : List UInt8) (w : World) (hb : Rd w A n b) (hn : n ≤ 512) :
    Calls Tryd.prog 34 #[.slice A n c] w (JoinsW w b) := by
  have hl := hb.len
  have u := units_any n 8 (by omega) (by omega) (by omega) w
  rw [show n + 8 - 1 = n + 7 by omega] at u
  obtain ⟨z, hz⟩ : ∃ z, z = (n + 7) / 8 := ⟨_, rfl⟩
  rw [← hz] at u
  have hz64 : z ≤ 64 := by omega
  have hmk := run_makeV (P := Tryd.prog) Tryd.underlying55 Tryd.infoU64 rfl z (by omega) (by omega) w
  have j0 := joined_none b
  rw [hl, ← hz] at j0
  have w0 : Whole (w.alloc (.cells (reps z (.int .u64 0)).toArray 61)) w.heap.size 61 (wvs (List.replicate z 0)) := by
    rw [← wvs_zero]
    exact Whole.new w _ _
  have b0 : Below w.heap.size w (w.alloc (.cells (reps z (.int .u64 0)).toArray 61)) := (Below.refl _ _).alloc (Nat.le_refl _) _
  have Hl := Lib.hid hl
  have Hz := Lib.hid hz
  clear hl hz
  go_enter Tryd.func34, Tryd.ntmps34
  go_wp2_with (go_at_call 27; refine u.mono ?_; rintro e w1 ⟨rfl, rfl⟩)
  clear u hmk
  go_loopw [12] (JoinRel b w z) (fun i _ => n - (intOf i).toNat)
  case atStart => exact ⟨0, _, Nat.zero_le _, rfl, by simp, j0, w0, b0⟩
  case round =>
    clear j0 w0 b0
    obtain ⟨i, ws, hi, rfl, hwl, hj, hwh, b1⟩ := hrel
    rw [Hl.out] at hi
    by_cases hlt : i < n
    · obtain ⟨bb, off, y, rfl, hbb, hy, hc⟩ := (hb.below b1).cell hlt
      have hqw : i / 8 < ws.length := by have := Hz.out; omega
      obtain ⟨x, hx⟩ : ∃ x, ws[i / 8]? = some x := ⟨_, List.getElem?_eq_getElem hqw⟩
      have hxl := hj.lt _ _ hx
      have cx := hwh.cell (i / 8)
      rw [wvs_get hx] at cx
      have j2 := hj.step hy hx
      obtain ⟨v, hv⟩ : ∃ v, v = x ||| y.toNat * 2 ^ (i % 8 * 8) % 18446744073709551616 := ⟨_, rfl⟩
      rw [← hv] at j2
      obtain ⟨q, hqe⟩ : ∃ q, q = i / 8 := ⟨_, rfl⟩
      obtain ⟨r, hre⟩ : ∃ r, r = i % 8 := ⟨_, rfl⟩
      obtain ⟨s, hse⟩ : ∃ s, s = r * 8 := ⟨_, rfl⟩
      have e1 : (i : Int) / 8 = (q : Int) := by omega
      have e2 : (i : Int) % 8 = (r : Int) := by omega
      have e3 : (r : Int) * 8 = (s : Int) := by omega
      have e4 : min s 64 = s := by omega
      rw [← hqe] at cx hqw j2
      obtain ⟨t, ht⟩ : ∃ t, t = y.toNat * 2 ^ s % 18446744073709551616 := ⟨_, rfl⟩
      have e5 : IntKind.u64.wrap ((y.toNat : Int) * (2 : Int) ^ s) = (t : Int) := by
        rw [IntKind.wrap_u64, ht]
        simp
      have htl : t < 18446744073709551616 := by rw [ht]; exact Nat.mod_lt _ (by omega)
      have e6 : bits .or .u64 (x : Int) (t : Int) = (v : Int) := by
        rw [bits_or_u64_nat x t hxl htl, hv, ht, hse, hre]
      have fx := hwh.free q
      have hs := hwh.set q (.int .u64 (v : Int))
      rw [wvs_set] at hs
      have b2 := b1.setCell (p := ⟨w.heap.size, q, none⟩) (Nat.le_refl _) (.int .u64 (v : Int))
      have hq64 : q ≤ 64 := by omega
      have hyl : y.toNat < 256 := y.toNat_lt
      rw [hwl] at hqw
      have hwl2 : (ws.set q v).length = z := by rw [List.length_set]; exact hwl
      have Hwl2 := Lib.hid hwl2
      have J2 := Lib.hid j2
      clear hx hj hwh hv hqe hre hse ht hwl hwl2 j2 hy
      go_wp2_with fail
      go_region
      all_goals go_wp2
      exact ⟨⟨i + 1, _, by rw [Hl.out]; omega, by go_num, Hwl2.out, J2.out, hs.drew, b2.drew⟩, by simp [intOf]; omega⟩
    · obtain rfl : i = n := by omega
      go_wp2
      go_ret
      rw [← Hl.out] at hj
      subst hwl
      exact ⟨ws, rfl, hj, hwh, b1⟩
end Go.Proofs.YtjfcgjmiianmkaaDoor

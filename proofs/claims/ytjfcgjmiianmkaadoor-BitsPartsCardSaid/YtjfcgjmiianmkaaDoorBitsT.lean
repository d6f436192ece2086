/-
  What the document's own Bytes of layer 3 does: a contract.
-/
import Derived.Test.YtjfcgjmiianmkaaDoorBitsS
namespace Go.Proofs.YtjfcgjmiianmkaaDoor
open Go.RowKit

/-- Two to a number; a plain definition, so that the walk leaves it as it stands. -/
def pw (k : Nat) : Nat := 2 ^ k
theorem pw_succ (k : Nat) : 2 * ((pw k : Nat) : Int) = ((pw (k + 1) : Nat) : Int) := by unfold pw; rw [Nat.pow_succ]; omega
theorem pw_le {k : Nat} (h : k ≤ 7) : pw k ≤ 128 := by
  have : 2 ^ k ≤ 2 ^ 7 := Nat.pow_le_pow_right (by omega) h
  unfold pw; omega
theorem set_same {l : List UInt8} {i : Nat} {x : UInt8} (h : l[i]? = some x) : l.set i x = l := by
  apply List.ext_getElem?
  intro j
  by_cases hj : i = j
  · subst hj
    rw [List.getElem?_set_self (List.getElem?_eq_some_iff.1 h).1, h]
  · rw [List.getElem?_set_ne hj]

def RefBytesRel (l : List Bool) (w : World) (out i : Value) (wr : World) : Prop :=
  ∃ k : Nat, k ≤ l.length ∧ i = .int .i64 (k : Int) ∧ Own 5 wr w.heap.size out (bytesL (l.take k)) ∧ Below w.heap.size w wr
/-- The bytes with a byte for the place i, ahead of its bit. -/
structure Ahead (l : List Bool) (i : Nat) (bs : List UInt8) : Prop where
  len : bs.length = i / 8 + 1
  pre : ∀ j, j < (i + 7) / 8 → bs[j]? = (bytesL (l.take i))[j]?
  cur : bs[i / 8]? = some (UInt8.ofNat (partB l i))
theorem ahead_open {l : List Bool} {i : Nat} (hi : i < l.length) (h8 : i % 8 = 0) : Ahead l i (bytesL (l.take i) ++ [0]) := by
  obtain ⟨h1, h2⟩ := bytesL_open hi h8
  refine ⟨by rw [h1]; omega, fun j hj => ?_, by rw [h2, partB_zero l h8]; rfl⟩
  rw [List.getElem?_append_left (by rw [bytesL_length, List.length_take]; omega)]
theorem ahead_in {l : List Bool} {i : Nat} (hi : i < l.length) (h8 : i % 8 ≠ 0) : Ahead l i (bytesL (l.take i)) := by
  refine ⟨by rw [bytesL_length, List.length_take]; omega, fun j hj => rfl, ?_⟩
  exact bytesL_get (by rw [List.length_take]; omega)
theorem Ahead.off {l : List Bool} {i : Nat} {bs : List UInt8} (h : Ahead l i bs) (hi : i < l.length) (hx : isOn l i = false) : bs = bytesL (l.take (i + 1)) := by
  have := bytesL_step hi bs (by rw [h.len]; omega) h.pre
  rw [hx, if_neg (by simp), Nat.add_zero, set_same h.cur] at this
  exact this
theorem Ahead.on {l : List Bool} {i : Nat} {bs : List UInt8} (h : Ahead l i bs) (hi : i < l.length) (hx : isOn l i = true) : bs.set (i / 8) (UInt8.ofNat (partB l i + pw (i % 8))) = bytesL (l.take (i + 1)) := by
  have := bytesL_step hi bs (by rw [h.len]; omega) h.pre
  rw [hx, if_pos rfl] at this
  exact this

set_option maxHeartbeats 2000000 in
theorem refBytes_any (A : Option Addr) (n c : Nat) (l : List Bool) (w : World) (hr : RdB w A n l) (hn : n ≤ 4096) :
    Calls Tryd.prog 22 #[.slice A n c] w (Gives w (bytesL l)) := by
  have Hl := Lib.hid hr.len
  go_enter Tryd.func22, Tryd.ntmps22
  go_wp2
  go_loopw [3, 4] (RefBytesRel l w) (fun _ i _ => n - (intOf i).toNat)
  case atStart => exact ⟨0, Nat.zero_le _, rfl, by simpa [bytesL] using Own.nil, Below.refl _ _⟩
  case round =>
    obtain ⟨i, hi, rfl, ho, b1⟩ := hrel
    rw [Hl.out] at hi
    by_cases hlt : i < n
    · have hsz := b1.size
      have hil : i < l.length := by rw [Hl.out]; exact hlt
      obtain ⟨r, hre⟩ : ∃ r, r = i % 8 := ⟨_, rfl⟩
      have e1 : (i : Int) % 8 = (r : Int) := by omega
      have hr7 : r ≤ 7 := by omega
      obtain ⟨q, hqe⟩ : ∃ q, q = i / 8 := ⟨_, rfl⟩
      have e2 : (i : Int) / 8 = (q : Int) := by omega
      have hq512 : q ≤ 512 := by omega
      have Hre := Lib.hid hre
      have Hqe := Lib.hid hqe
      by_cases h8 : r = 0
      · have ha := ahead_open hil (by omega)
        obtain ⟨v2, w2, hap, ho2, b2⟩ := run_app_one (P := Tryd.prog) w.heap.size 39 39 5 Tryd.underlying39 Tryd.infoU8 _ _ ho (.int .u8 0) 0 rfl (by rw [bytesL_length, List.length_take]; omega) hsz
        obtain ⟨bs, hbs⟩ : ∃ bs, bs = bytesL (l.take i) ++ [0] := ⟨_, rfl⟩
        rw [← hbs] at ha ho2
        have t1 : ((r : Int) == 0) = true := by simp [h8]
        have b12 := b1.trans b2
        clear hbs hre hqe h8
        go_upto_region 7 with (at_builtin; refine wpList_append_run hap rfl _ _ rfl rfl rfl rfl ?_)
        clear hap b2 ho b1 t1
        obtain ⟨z, hz⟩ : ∃ z, z = q + 1 := ⟨_, rfl⟩
        have hbl : bs.length = z := by rw [ha.len, hz, Hqe.out]
        have hf := ho2.form (by omega)
        rw [hbl] at hf
        obtain ⟨g, cap, rfl, hg, hzc, hcm⟩ := hf
        unfold maxLen at hcm
        obtain ⟨b, off, rfl, _, hc⟩ := (hr.below b12).cell hlt
        obtain ⟨x, hx⟩ : ∃ x, x = isOn l i := ⟨_, rfl⟩
        rw [← hx] at hc
        have hqz : q < z := by omega
        have HA := Lib.hid ha
        have Hbl := Lib.hid hbl
        clear hz hbl ha
        cases x
        · have hoff := HA.out.off hil hx.symm
          clear hx
          rw [hoff] at ho2
          have Ho := Lib.hid ho2
          clear hoff ho2
          go_wp2
          exact ⟨⟨i + 1, by rw [Hl.out]; omega, by go_num, Ho.out, b12⟩, by simp [intOf]; omega⟩
        · have hon := HA.out.on hil hx.symm
          rw [← Hre.out, ← Hqe.out] at hon
          obtain ⟨y, hy, cy⟩ := ho2.cell Hbl.out hqz
          have hyp : y = UInt8.ofNat (partB l i) := by
            have h1 := HA.out.cur
            rw [← Hqe.out, hy] at h1
            injection h1
          have hpl := partB_lt l i
          rw [← Hre.out] at hpl
          change partB l i + pw r < 256 at hpl
          obtain ⟨p, hp⟩ : ∃ p, p = partB l i := ⟨_, rfl⟩
          rw [← hp] at hpl hyp hon
          rw [show (y.toNat : Int) = (p : Int) from by rw [hyp]; simp; omega] at cy
          have fy := ho2.free Hbl.out q
          have o3 := ho2.set Hbl.out q (UInt8.ofNat (p + pw r))
          rw [hon, show bv (UInt8.ofNat (p + pw r)) = .int .u8 ((p : Int) + (pw r : Int)) from by unfold bv; congr 1; simp; omega] at o3
          have b3 := b12.setCell (p := ⟨g, q, none⟩) hg (.int .u8 ((p : Int) + (pw r : Int)))
          have O3 := Lib.hid o3
          have B3 := Lib.hid b3
          clear hx hy hyp hp hon o3 b3 ho2
          go_wp2_with fail
          clear hc
          go_loop [5, 6] (fun v k => ∃ j : Nat, j ≤ r ∧ k = .int .i64 (j : Int) ∧ v = .int .i64 (pw j : Int)) (fun _ k => r - (intOf k).toNat)
          case atStart => exact ⟨0, Nat.zero_le _, rfl, rfl⟩
          case round =>
            obtain ⟨j, hj, rfl, rfl⟩ := hrel
            have hpj := pw_le (show j ≤ 7 by omega)
            by_cases hjr : j < r
            · have Hs := Lib.hid (pw_succ j)
              clear cy fy
              go_wp2
              refine ⟨⟨j + 1, by omega, by go_num, by rw [Hs.out]⟩, by simp [intOf]; omega⟩
            · obtain rfl : j = r := by omega
              have t4 : (pw j : Int) % 256 = (pw j : Int) := by omega
              go_wp2
              exact ⟨⟨i + 1, by rw [Hl.out]; omega, by go_num, O3.out, B3.out⟩, by simp [intOf]; omega⟩
      · have ha := ahead_in hil (by omega)
        obtain ⟨bs, hbs⟩ : ∃ bs, bs = bytesL (l.take i) := ⟨_, rfl⟩
        rw [← hbs] at ha ho
        have t1 : ((r : Int) == 0) = false := by simp; omega
        clear hbs hre hqe h8
        go_upto_region 7 with (fail)
        have ho2 := ho
        have b12 := b1
        clear t1 ho b1
        obtain ⟨z, hz⟩ : ∃ z, z = q + 1 := ⟨_, rfl⟩
        have hbl : bs.length = z := by rw [ha.len, hz, Hqe.out]
        have hf := ho2.form (by omega)
        rw [hbl] at hf
        obtain ⟨g, cap, rfl, hg, hzc, hcm⟩ := hf
        unfold maxLen at hcm
        obtain ⟨b, off, rfl, _, hc⟩ := (hr.below b12).cell hlt
        obtain ⟨x, hx⟩ : ∃ x, x = isOn l i := ⟨_, rfl⟩
        rw [← hx] at hc
        have hqz : q < z := by omega
        have HA := Lib.hid ha
        have Hbl := Lib.hid hbl
        clear hz hbl ha
        cases x
        · have hoff := HA.out.off hil hx.symm
          clear hx
          rw [hoff] at ho2
          have Ho := Lib.hid ho2
          clear hoff ho2
          go_wp2
          exact ⟨⟨i + 1, by rw [Hl.out]; omega, by go_num, Ho.out, b12⟩, by simp [intOf]; omega⟩
        · have hon := HA.out.on hil hx.symm
          rw [← Hre.out, ← Hqe.out] at hon
          obtain ⟨y, hy, cy⟩ := ho2.cell Hbl.out hqz
          have hyp : y = UInt8.ofNat (partB l i) := by
            have h1 := HA.out.cur
            rw [← Hqe.out, hy] at h1
            injection h1
          have hpl := partB_lt l i
          rw [← Hre.out] at hpl
          change partB l i + pw r < 256 at hpl
          obtain ⟨p, hp⟩ : ∃ p, p = partB l i := ⟨_, rfl⟩
          rw [← hp] at hpl hyp hon
          rw [show (y.toNat : Int) = (p : Int) from by rw [hyp]; simp; omega] at cy
          have fy := ho2.free Hbl.out q
          have o3 := ho2.set Hbl.out q (UInt8.ofNat (p + pw r))
          rw [hon, show bv (UInt8.ofNat (p + pw r)) = .int .u8 ((p : Int) + (pw r : Int)) from by unfold bv; congr 1; simp; omega] at o3
          have b3 := b12.setCell (p := ⟨g, q, none⟩) hg (.int .u8 ((p : Int) + (pw r : Int)))
          have O3 := Lib.hid o3
          have B3 := Lib.hid b3
          clear hx hy hyp hp hon o3 b3 ho2
          go_wp2_with fail
          clear hc
          go_loop [5, 6] (fun v k => ∃ j : Nat, j ≤ r ∧ k = .int .i64 (j : Int) ∧ v = .int .i64 (pw j : Int)) (fun _ k => r - (intOf k).toNat)
          case atStart => exact ⟨0, Nat.zero_le _, rfl, rfl⟩
          case round =>
            obtain ⟨j, hj, rfl, rfl⟩ := hrel
            have hpj := pw_le (show j ≤ 7 by omega)
            by_cases hjr : j < r
            · have Hs := Lib.hid (pw_succ j)
              clear cy fy
              go_wp2
              refine ⟨⟨j + 1, by omega, by go_num, by rw [Hs.out]⟩, by simp [intOf]; omega⟩
            · obtain rfl : j = r := by omega
              have t4 : (pw j : Int) % 256 = (pw j : Int) := by omega
              go_wp2
              exact ⟨⟨i + 1, by rw [Hl.out]; omega, by go_num, O3.out, B3.out⟩, by simp [intOf]; omega⟩
    · obtain rfl : i = n := by omega
      rw [List.take_of_length_le (by rw [Hl.out]; omega)] at ho
      go_wp2
      go_ret
      exact ⟨_, rfl, ho, b1⟩
end Go.Proofs.YtjfcgjmiianmkaaDoor

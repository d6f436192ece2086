/-
  What the document's own answers for layer 3 do, but its bytes: contracts, one a function.
-/
import Derived.Test.YtjfcgjmiianmkaaDoorBitsG
namespace Go.Proofs.YtjfcgjmiianmkaaDoor
open Go.RowKit

theorem Tryd.infoBool : (Tryd.prog.info? 4).map (fun i => (i.zero, i.size, i.bytes)) = some (some (.bool false), 1, 1) := by kernel_rfl

/-- Truths as cells. -/
def bls (l : List Bool) : List Value := l.map Value.bool
theorem bls_length (l : List Bool) : (bls l).length = l.length := by simp [bls]
theorem bls_get {l : List Bool} {j : Nat} (h : j < l.length) : (bls l)[j]? = some (.bool (isOn l j)) := by simp [bls, get_isOn h]
theorem bls_snoc (l : List Bool) (x : Bool) : bls l ++ [.bool x] = bls (l ++ [x]) := by simp [bls]
/-- The slice reads as these truths. -/
def RdB (w : World) (A : Option Addr) (n : Nat) (l : List Bool) : Prop := RdV w A n (bls l)
theorem RdB.len {w : World} {A : Option Addr} {n : Nat} {l : List Bool} (h : RdB w A n l) : l.length = n := by
  have := RdV.len h
  rwa [bls_length] at this
theorem RdB.cell {w : World} {A : Option Addr} {n : Nat} {l : List Bool} (h : RdB w A n l) {j : Nat} (hj : j < n) : ∃ b off, A = some ⟨b, off, none⟩ ∧ b < w.heap.size ∧ w.cell? ⟨b, off + j, none⟩ = some (.bool (isOn l j)) := by
  obtain ⟨b, off, x, e, hb, hx, hc⟩ := RdV.cell h hj
  rw [bls_get (by rw [h.len]; exact hj)] at hx
  injection hx with hx
  subst hx
  exact ⟨b, off, e, hb, hc⟩
theorem RdB.below {w w' : World} {A : Option Addr} {n : Nat} {l : List Bool} (h : RdB w A n l) (hb : Below w.heap.size w w') : RdB w' A n l := RdV.below h hb

set_option maxHeartbeats 400000 in
theorem may_any (n : Int) (w : World) : Calls Tryd.prog 12 #[.int .i64 n] w fun e w' => e = .returned (.bool (decide (0 ≤ n ∧ n ≤ 4096))) ∧ w = w' := by
  by_cases h : 0 ≤ n ∧ n ≤ 4096
  · rw [decide_eq_true h]
    obtain ⟨h1, h2⟩ := h
    go_enter Tryd.func12, Tryd.ntmps12
    go_wp2
    go_ret
    exact ⟨rfl, rfl⟩
  · rw [decide_eq_false h]
    by_cases h0 : 0 ≤ n
    · have h2 : decide (n ≤ 4096) = false := by simp; omega
      go_enter Tryd.func12, Tryd.ntmps12
      go_wp2
      go_ret
      exact ⟨rfl, rfl⟩
    · have h2 : decide (0 ≤ n) = false := by simp; omega
      go_enter Tryd.func12, Tryd.ntmps12
      go_wp2
      go_ret
      exact ⟨rfl, rfl⟩

set_option maxHeartbeats 400000 in
theorem places_any (A : Option Addr) (k c : Nat) (l : List Bool) (a n : Int) (w : World) (hl : l.length = k) (hk : k ≤ 4096) :
    Calls Tryd.prog 28 #[.slice A k c, .int .i64 a, .int .i64 n] w fun e w' => e = .returned (.bool (mayPut l a n)) ∧ w = w' := by
  unfold mayPut
  rw [hl]
  clear hl
  by_cases h0 : 0 ≤ a
  · by_cases h1 : 0 ≤ n
    · by_cases h2 : a ≤ (k : Int)
      · by_cases h3 : n ≤ (k : Int) - a
        · rw [decide_eq_true (show 0 ≤ a ∧ 0 ≤ n ∧ n ≤ (k : Int) - a from ⟨h0, h1, h3⟩)]
          go_enter Tryd.func28, Tryd.ntmps28
          go_wp2
          go_ret
          exact ⟨rfl, rfl⟩
        · rw [decide_eq_false (show ¬ (0 ≤ a ∧ 0 ≤ n ∧ n ≤ (k : Int) - a) from fun h => h3 h.2.2)]
          have h4 : decide (n ≤ (k : Int) - a) = false := by simp; omega
          go_enter Tryd.func28, Tryd.ntmps28
          go_wp2
          go_ret
          exact ⟨rfl, rfl⟩
      · rw [decide_eq_false (show ¬ (0 ≤ a ∧ 0 ≤ n ∧ n ≤ (k : Int) - a) from fun h => by omega)]
        have h4 : decide (a ≤ (k : Int)) = false := by simp; omega
        go_enter Tryd.func28, Tryd.ntmps28
        go_wp2
        go_ret
        exact ⟨rfl, rfl⟩
    · rw [decide_eq_false (show ¬ (0 ≤ a ∧ 0 ≤ n ∧ n ≤ (k : Int) - a) from fun h => h1 h.2.1)]
      have h4 : decide (0 ≤ n) = false := by simp; omega
      go_enter Tryd.func28, Tryd.ntmps28
      go_wp2
      go_ret
      exact ⟨rfl, rfl⟩
  · rw [decide_eq_false (show ¬ (0 ≤ a ∧ 0 ≤ n ∧ n ≤ (k : Int) - a) from fun h => h0 h.1)]
    have h4 : decide (0 ≤ a) = false := by simp; omega
    go_enter Tryd.func28, Tryd.ntmps28
    go_wp2
    go_ret
    exact ⟨rfl, rfl⟩

/-- What the document's Put hands back where there are such places. -/
def GivesB (w : World) (l : List Bool) (er : Int) (e : Ending) (w' : World) : Prop := ∃ v, e = .returned (.tuple #[v, .int .i64 er]) ∧ OwnV 4 w' w.heap.size v (bls l) ∧ Below w.heap.size w w'
def RefPutRel (l : List Bool) (w : World) (out i : Value) (wr : World) : Prop :=
  ∃ k : Nat, k ≤ l.length ∧ i = .int .i64 k ∧ OwnV 4 wr w.heap.size out (bls (l.take k)) ∧ Below w.heap.size w wr
theorem take_snoc {l : List Bool} {k : Nat} (h : k < l.length) : l.take (k + 1) = l.take k ++ [isOn l k] := by
  rw [List.take_add_one, get_isOn h]
  rfl

set_option maxHeartbeats 400000 in
theorem refPut_no (A : Option Addr) (k c : Nat) (l : List Bool) (a n : Int) (on : Bool) (w : World) (hl : l.length = k) (hk : k ≤ 4096) (h : mayPut l a n = false) :
    Calls Tryd.prog 13 #[.slice A k c, .int .i64 a, .int .i64 n, .bool on] w fun e w' => e = .returned (.tuple #[.slice A k c, .int .i64 30]) ∧ w = w' := by
  have P := places_any A k c l a n w hl hk
  rw [h] at P
  clear h hl
  go_enter Tryd.func13, Tryd.ntmps13
  go_wp2_with (go_at_call 28; refine P.mono ?_; rintro e w1 ⟨rfl, rfl⟩)
  go_ret2
  exact ⟨rfl, rfl⟩

set_option maxHeartbeats 1000000 in
theorem refPut_yes (A : Option Addr) (k c : Nat) (l : List Bool) (a n : Nat) (on : Bool) (w : World) (hr : RdB w A k l) (hk : k ≤ 4096) (h : a + n ≤ k) :
    Calls Tryd.prog 13 #[.slice A k c, .int .i64 (a : Int), .int .i64 (n : Int), .bool on] w (GivesB w (putL l a n on) 0) := by
  have hl := hr.len
  have P := places_any A k c l (a : Int) (n : Int) w hl hk
  rw [show mayPut l (a : Int) (n : Int) = true from decide_eq_true (by omega)] at P
  obtain ⟨m, hm⟩ : ∃ m, m = putL l a n on := ⟨_, rfl⟩
  have hml : m.length = k := by rw [hm, putL_length, hl]
  have Hm := Lib.hid hm
  have Hl := Lib.hid hl
  have Hml := Lib.hid hml
  rw [← hm]
  clear hl hm hml
  go_enter Tryd.func13, Tryd.ntmps13
  go_wp2_with (go_at_call 28; refine P.mono ?_; rintro e w1 ⟨rfl, rfl⟩)
  clear P
  go_loopw [10, 11] (RefPutRel m w) (fun _ i _ => k - (intOf i).toNat)
  case atStart => exact ⟨0, Nat.zero_le _, rfl, OwnV.nil, Below.refl _ _⟩
  case round =>
    obtain ⟨i, hi, rfl, ho, b1⟩ := hrel
    rw [Hml.out] at hi
    by_cases hlt : i < k
    · have hsz := b1.size
      have hms : isOn m i = if a ≤ i ∧ i < a + n then on else isOn l i := by rw [Hm.out]; exact putL_isOn _ _ _ _ (by rw [Hl.out]; exact hlt)
      have hts := take_snoc (l := m) (k := i) (by rw [Hml.out]; exact hlt)
      obtain ⟨x, hx⟩ : ∃ x, x = isOn m i := ⟨_, rfl⟩
      rw [← hx] at hts hms
      obtain ⟨v2, w2, hap, ho2, b2⟩ := run_app_oneV (P := Tryd.prog) w.heap.size 29 29 4 Tryd.underlying29 Tryd.infoBool rfl _ _ ho (.bool x) rfl (by rw [bls_length, List.length_take]; omega) hsz
      rw [bls_snoc, ← hts] at ho2
      clear hts hx
      by_cases h1 : a ≤ i
      · by_cases h2 : i < a + n
        · rw [if_pos ⟨h1, h2⟩] at hms
          subst hms
          have t2 : (i : Int) - (a : Int) < (n : Int) := by omega
          go_wp2_with (at_builtin; refine wpList_append_run hap rfl _ _ rfl rfl rfl rfl ?_)
          go_roundw
          case rel => exact ⟨i + 1, by rw [Hml.out]; omega, by go_num, ho2, b1.trans b2⟩
          case measure => simp [intOf]; omega
        · rw [if_neg (by omega)] at hms
          subst hms
          obtain ⟨b, off, rfl, _, hc⟩ := (hr.below b1).cell hlt
          have t2 : decide ((i : Int) - (a : Int) < (n : Int)) = false := by simp; omega
          go_wp2_with (at_builtin; refine wpList_append_run hap rfl _ _ rfl rfl rfl rfl ?_)
          go_roundw
          case rel => exact ⟨i + 1, by rw [Hml.out]; omega, by go_num, ho2, b1.trans b2⟩
          case measure => simp [intOf]; omega
      · rw [if_neg (by omega)] at hms
        subst hms
        obtain ⟨b, off, rfl, _, hc⟩ := (hr.below b1).cell hlt
        have t1 : decide ((a : Int) ≤ (i : Int)) = false := by simp; omega
        go_wp2_with (at_builtin; refine wpList_append_run hap rfl _ _ rfl rfl rfl rfl ?_)
        go_roundw
        case rel => exact ⟨i + 1, by rw [Hml.out]; omega, by go_num, ho2, b1.trans b2⟩
        case measure => simp [intOf]; omega
    · obtain rfl : i = k := by omega
      rw [List.take_of_length_le (by rw [Hml.out]; omega)] at ho
      go_wp2
      go_ret2
      exact ⟨_, rfl, ho, b1⟩
end Go.Proofs.YtjfcgjmiianmkaaDoor

/-
  The document's Nodes, View, Primary, in, Next, Enough: contracts.
-/
import Derived.Test.YtbfamijlaoopaaaVwMath
namespace Go.Proofs.Ytbfamijlaoopaaa
open Go.RowKit
def ivl (l : List Int) : List Value := l.map (Value.int .i64)
theorem ivl_len (l : List Int) : (ivl l).length = l.length := List.length_map _
theorem ivl_get {l : List Int} {j : Nat} {x : Value} (h : (ivl l)[j]? = some x) : ∃ v, l[j]? = some v ∧ x = .int .i64 v := by
  unfold ivl at h
  rw [List.getElem?_map] at h
  cases e : l[j]? with
  | none => rw [e] at h; cases h
  | some v => rw [e] at h; exact ⟨v, rfl, (Option.some.inj h).symm⟩
/-- A slice reads as these numbers. -/
def RdN (w : World) (A : Option Addr) (n : Nat) (l : List Int) : Prop := RdV w A n (ivl l)
theorem RdN.len {w : World} {A : Option Addr} {n : Nat} {l : List Int} (h : RdN w A n l) : l.length = n := by have := RdV.len h; rwa [ivl_len] at this
theorem RdN.below {w w' : World} {A : Option Addr} {n : Nat} {l : List Int} (h : RdN w A n l) (hb : Below w.heap.size w w') : RdN w' A n l := RdV.below h hb
theorem RdN.cell {w : World} {A : Option Addr} {n : Nat} {l : List Int} (h : RdN w A n l) {j : Nat} (hj : j < n) : ∃ b off x, A = some ⟨b, off, none⟩ ∧ b < w.heap.size ∧ l[j]? = some x ∧ w.cell? ⟨b, off + j, none⟩ = some (.int .i64 x) := by
  obtain ⟨b, off, y, e, hb, hy, hc⟩ := RdV.cell h hj
  obtain ⟨x, hx, rfl⟩ := ivl_get hy
  exact ⟨b, off, x, e, hb, hx, hc⟩
set_option maxHeartbeats 400000 in
theorem rnodes_any (n : Int) (w : World) : Calls Try.prog 13 #[.int .i64 n] w fun e w' => e = .returned (.bool (isN n)) ∧ w' = w := by
  by_cases h3 : n = 3
  · subst h3
    go_enter Try.func13, Try.ntmps13
    go_wp2
    go_ret
    exact ⟨rfl, rfl⟩
  · by_cases h5 : n = 5
    · subst h5
      go_enter Try.func13, Try.ntmps13
      go_wp2
      go_ret
      exact ⟨rfl, rfl⟩
    · have e3 : decide (n = 3) = false := by simp [h3]
      have e5 : decide (n = 5) = false := by simp [h5]
      have b3 : (n == 3) = false := by simp [h3]
      have b5 : (n == 5) = false := by simp [h5]
      have he : isN n = decide (n = 7) := by unfold isN; rw [b3, b5]; simp [Bool.beq_eq_decide_eq]
      rw [he]
      clear he
      by_cases h7 : n = 7
      · subst h7
        go_enter Try.func13, Try.ntmps13
        go_wp2
        go_ret
        exact ⟨rfl, rfl⟩
      · have e7 : decide (n = 7) = false := by simp [h7]
        have b7 : (n == 7) = false := by simp [h7]
        rw [e7]
        go_enter Try.func13, Try.ntmps13
        go_wp2
        go_ret
        exact ⟨rfl, rfl⟩
set_option maxHeartbeats 400000 in
theorem rview_any (v : Int) (w : World) : Calls Try.prog 27 #[.int .i64 v] w fun e w' => e = .returned (.bool (isV v)) ∧ w' = w := by
  unfold isV
  by_cases h0 : 0 ≤ v
  · rw [decide_eq_true h0]
    go_enter Try.func27, Try.ntmps27
    go_wp2
    go_ret
    exact ⟨rfl, rfl⟩
  · rw [decide_eq_false h0]
    go_enter Try.func27, Try.ntmps27
    go_wp2
    go_ret
    exact ⟨rfl, rfl⟩
set_option maxHeartbeats 400000 in
theorem rprim_any (n v : Int) (w : World) : Calls Try.prog 15 #[.int .i64 n, .int .i64 v] w fun e w' => e = .returned (.int .i64 (prim n v)) ∧ w' = w := by
  have HN := rnodes_any n w
  have HV := rview_any v w
  cases hn : isN n
  · rw [prim_no (.inl hn)]
    rw [hn] at HN
    go_enter Try.func15, Try.ntmps15
    go_wp2_with (go_at_call 13; refine HN.mono ?_; rintro x W2 ⟨rfl, rfl⟩)
    go_ret
    exact ⟨rfl, rfl⟩
  · cases hv : isV v
    · rw [prim_no (.inr hv)]
      rw [hn] at HN
      rw [hv] at HV
      go_enter Try.func15, Try.ntmps15
      go_wp2_with (first | (go_at_call 13; refine HN.mono ?_; rintro x W2 ⟨rfl, rfl⟩) | (go_at_call 27; refine HV.mono ?_; rintro x W2 ⟨rfl, rfl⟩))
      go_ret
      exact ⟨rfl, rfl⟩
    · rw [prim_yes hn hv]
      rw [hn] at HN
      rw [hv] at HV
      have hb := isV_iff.1 hv
      have hnn := isN_cases hn
      have hne : n ≠ 0 := by omega
      have htm : Int.tmod v n = v % n := Int.tmod_eq_emod_of_nonneg hb.1
      have h1 : 0 ≤ v % n := Int.emod_nonneg _ hne
      have h2 : v % n < 7 := Int.lt_of_lt_of_le (Int.emod_lt_of_pos _ (by omega)) (by omega)
      clear hv hn hnn
      go_enter Try.func15, Try.ntmps15
      go_wp2_with (first | (go_at_call 13; refine HN.mono ?_; rintro x W2 ⟨rfl, rfl⟩) | (go_at_call 27; refine HV.mono ?_; rintro x W2 ⟨rfl, rfl⟩))
      go_ret
      exact ⟨rfl, rfl⟩
def InRel (W : World) (l : List Int) (x : Int) (i : Value) (wr : World) : Prop := ∃ k : Nat, k ≤ l.length ∧ i = .int .i64 (k : Int) ∧ ¬ x ∈ l.take k ∧ wr = W
theorem take_mem {l : List Int} {k : Nat} {y x : Int} (h : l[k]? = some y) : x ∈ l.take (k + 1) ↔ x ∈ l.take k ∨ x = y := by
  rw [List.take_add_one, h]
  simp
set_option maxHeartbeats 1000000 in
theorem rin_any {A : Option Addr} {n c : Nat} {l : List Int} {w : World} (h : RdN w A n l) (hn : n ≤ 1000000) (x : Int) : Calls Try.prog 31 #[.slice A n c, .int .i64 x] w fun e w' => e = .returned (.bool (decide (x ∈ l))) ∧ w' = w := by
  have HL := Lib.hid h.len
  have HR := Lib.hid h
  clear h
  go_enter Try.func31, Try.ntmps31
  go_wp2
  go_loopw [5] (InRel w l x) (fun i _ => n - (Go.RowKit.intOf i).toNat)
  case atStart => exact ⟨0, Nat.zero_le _, rfl, by simp, rfl⟩
  case round =>
    obtain ⟨k, hk, rfl, hx, rfl⟩ := hrel
    have Hx := Lib.hid hx
    clear hx hk
    by_cases hlt : k < n
    · obtain ⟨b, off, y, rfl, hb, hy, hc⟩ := HR.out.cell hlt
      have Hy := Lib.hid hy
      have hki : (k : Int) < (n : Int) := by omega
      clear hy hb
      by_cases he : y = x
      · have hd : (y == x) = true := by simp [he]
        have hd2 : decide (y = x) = true := by simp [he]
        have hm : x ∈ l := List.mem_of_getElem? (by rw [Hy.out, he])
        have Hm := Lib.hid hm
        clear hm he
        go_wp2
        go_ret
        exact ⟨by rw [decide_eq_true Hm.out]; rfl, rfl⟩
      · have hd : (y == x) = false := by simp [he]
        have hd2 : decide (y = x) = false := by simp [he]
        have hm : ¬ x ∈ l.take (k + 1) := by
          rw [take_mem Hy.out]
          rintro (h | h)
          · exact Hx.out h
          · exact he h.symm
        have Hm := Lib.hid hm
        clear hm he
        go_wp2
        go_roundw
        case rel => exact ⟨k + 1, by have := HL.out; omega, by go_num, Hm.out, rfl⟩
        case measure => simp [Go.RowKit.intOf]; omega
    · have hm : ¬ x ∈ l := by
        have h1 := Hx.out
        rwa [List.take_of_length_le (by have := HL.out; omega)] at h1
      have Hm := Lib.hid hm
      have hki : ¬ ((k : Int) < (n : Int)) := by omega
      clear hm
      go_wp2
      go_ret
      exact ⟨by rw [decide_eq_false Hm.out]; rfl, rfl⟩
end Go.Proofs.Ytbfamijlaoopaaa

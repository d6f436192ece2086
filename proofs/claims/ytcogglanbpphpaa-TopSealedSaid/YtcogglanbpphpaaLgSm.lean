/-
  Package redo: the small helpers, where nothing goes wrong: contracts, one a function.
-/
import Derived.Test.YtcogglanbpphpaaLgMem
import Derived.Deep.RegionWith
import Derived.RegionTactic
import Derived.Deep.QuietTactic
import Derived.BigQuiet
namespace Go.Proofs.Ytcogglanbpphpaa
open Go.RowKit

set_option maxHeartbeats 400000 in
theorem insist_yes (w : World) : Calls Try.prog 35 #[.bool true] w fun e w' => e = .returned (.tuple #[]) ∧ w' = w := by
  go_enter Try.func35, Try.ntmps35
  go_wp2
  go_end0
  exact ⟨rfl, rfl⟩
set_option maxHeartbeats 400000 in
theorem done_yes (w : World) : Calls Try.prog 39 #[.int .i64 0] w fun e w' => e = .returned (.tuple #[]) ∧ w' = w := by
  go_enter Try.func39, Try.ntmps39
  go_wp2
  go_end0
  exact ⟨rfl, rfl⟩
set_option maxHeartbeats 400000 in
theorem need_yes (A : Option Addr) (n c : Nat) (w : World) : Calls Try.prog 50 #[.slice A n c, .int .i64 0] w fun e w' => e = .returned (.slice A n c) ∧ w' = w := by
  go_enter Try.func50, Try.ntmps50
  go_wp2_with (go_at_call 39; refine (done_yes w).mono ?_; rintro e w1 ⟨rfl, rfl⟩)
  go_ret
  exact ⟨rfl, rfl⟩
set_option maxHeartbeats 400000 in
theorem right_bytes (A : Option Addr) (n c : Nat) (w : World) : Calls Try.prog 62 #[.slice A n c, .int .i64 0] w fun e w' => e = .returned (.slice A n c) ∧ w' = w := by
  go_enter Try.func62, Try.ntmps62
  go_wp2_with (go_at_call 35; refine (insist_yes w).mono ?_; rintro e w1 ⟨rfl, rfl⟩)
  go_ret
  exact ⟨rfl, rfl⟩
set_option maxHeartbeats 400000 in
theorem right_num_yes (m : Int) (w : World) : Calls Try.prog 64 #[.int .i64 m, .int .i64 0] w fun e w' => e = .returned (.int .i64 m) ∧ w' = w := by
  go_enter Try.func64, Try.ntmps64
  go_wp2_with (go_at_call 35; refine (insist_yes w).mono ?_; rintro e w1 ⟨rfl, rfl⟩)
  go_ret
  exact ⟨rfl, rfl⟩
set_option maxHeartbeats 400000 in
theorem right_text (s : ByteArray) (w : World) : Calls Try.prog 66 #[.string s, .int .i64 0] w fun e w' => e = .returned (.string s) ∧ w' = w := by
  go_enter Try.func66, Try.ntmps66
  go_wp2_with (go_at_call 35; refine (insist_yes w).mono ?_; rintro e w1 ⟨rfl, rfl⟩)
  go_ret
  exact ⟨rfl, rfl⟩
theorem np_int (n : Nat) : max (1 : Int) (((n : Int) + 36 - 1) / 36) = ((np n : Nat) : Int) := by unfold np; omega
set_option maxHeartbeats 400000 in
theorem pieces_any (n : Nat) (hn : n ≤ 1000000000000) (w : World) : Calls Try.prog 19 #[.int .i64 (n : Int)] w fun e w' => e = .returned (.int .i64 ((np n : Nat) : Int)) ∧ w' = w := by
  go_enter Try.func19, Try.ntmps19
  go_wp2
  all_goals (
    go_ret
    refine ⟨?_, rfl⟩
    refine congrArg (fun m => Ending.returned (.int .i64 m)) ?_
    unfold np
    omega)

section
variable {w : World} {g p fr se ag fi st : Nat} {z : Value}
set_option maxHeartbeats 400000 in
theorem ring_any (h : LAt w g p fr se ag fi st z) (h1 : 1 ≤ se) (h2 : se ≤ 1024) : Calls Try.prog 20 #[.pointer (some ⟨g, 0, none⟩)] w fun e w' => e = .returned (.int .i64 ((se - 1 : Nat) : Int)) ∧ w' = w := by
  have c2 := h.c2
  clear h
  have e1 : ((se - 1 : Nat) : Int) = (se : Int) - 1 := by omega
  rw [e1]
  clear e1
  go_enter Try.func20, Try.ntmps20
  go_wp2
  go_ret
  exact ⟨rfl, rfl⟩
set_option maxHeartbeats 400000 in
theorem none_any (h : LAt w g p fr se ag fi st z) : Calls Try.prog 17 #[.pointer (some ⟨g, 0, none⟩)] w fun e w' => e = .returned (.bool false) ∧ w' = w := by
  have c0 := h.c0
  clear h
  go_enter Try.func17, Try.ntmps17
  go_wp2
  go_ret
  exact ⟨rfl, rfl⟩
set_option maxHeartbeats 400000 in
theorem next_any {A : Option Addr} {n c : Nat} (h : LAt w g p fr se ag fi st (.slice A n c)) (h1 : fi + n ≤ 1000000000000) : Calls Try.prog 24 #[.pointer (some ⟨g, 0, none⟩)] w fun e w' => e = .returned (.int .i64 ((fi + n : Nat) : Int)) ∧ Below w.heap.size w w' := by
  have c4 := h.c4
  have c6 := h.c6
  have k := none_any h
  clear h
  rw [Int.natCast_add]
  go_enter Try.func24, Try.ntmps24
  go_wp2_with (go_at_call 17; refine k.mono ?_; rintro e w1 ⟨rfl, rfl⟩)
  go_region
  all_goals (
    go_wp2
    go_ret
    exact ⟨rfl, (Below.refl _ _).drew⟩)
set_option maxHeartbeats 400000 in
theorem place_log (h : LAt w g p fr se ag fi st z) (h1 : 2 ≤ se) (h2 : se ≤ 1024) (h3 : fr ≤ 4096) (h4 : st ≤ 1024) (k : Nat) (hk : k ≤ 4096) :
    Calls Try.prog 23 #[.pointer (some ⟨g, 0, none⟩), .int .i64 (k : Int)] w fun e w' => e = .returned (.int .i64 ((fr + 1 + (st + k) % (se - 1) : Nat) : Int)) ∧ Below w.heap.size w w' := by
  have c1 := h.c1
  have c5 := h.c5
  have kr := fun nq => ring_any (w := w.drewN nq) (g := g) (p := p) (fr := fr) (se := se) (ag := ag) (fi := fi) (st := st) (z := z) h (by omega) h2
  have e1 : ((fr + 1 + (st + k) % (se - 1) : Nat) : Int) = (fr : Int) + 1 + ((st : Int) + (k : Int)) % ((se - 1 : Nat) : Int) := by
    rw [Int.natCast_add, Int.natCast_emod, Int.natCast_add, Int.natCast_add]
    rfl
  rw [e1]
  obtain ⟨m, hm⟩ : ∃ m, m = se - 1 := ⟨_, rfl⟩
  rw [← hm] at kr ⊢
  have hm1 : 1 ≤ m := by omega
  have hm2 : m ≤ 1024 := by omega
  have hlt : ((st : Int) + (k : Int)) % (m : Int) < (m : Int) := Int.emod_lt_of_pos _ (by omega)
  have hge : 0 ≤ ((st : Int) + (k : Int)) % (m : Int) := Int.emod_nonneg _ (by omega)
  have ht : Int.tmod ((st : Int) + (k : Int)) (m : Int) = ((st : Int) + (k : Int)) % (m : Int) := Int.tmod_eq_emod_of_nonneg (by omega)
  have hw : IntKind.i64.wrap ((fr : Int) + 1 + ((st : Int) + (k : Int)) % (m : Int)) = (fr : Int) + 1 + ((st : Int) + (k : Int)) % (m : Int) := IntWalk.i64_in _ (by omega)
  clear h e1 hm
  go_enter Try.func23, Try.ntmps23
  go_wp2
  go_quiet ((go_at_call 20; exact Calls.quiet_of_same (kr _)))
  go_wp2
  go_ret
  exact ⟨rfl, below_drewN (Below.refl _ _) _⟩
/-- The relation of used's loop. -/
theorem used_any {A : Option Addr} {n c : Nat} {l : List Nat} (h : LAt w g p fr se ag fi st (.slice A n c)) (hl : RdV w A n (nts l)) (hn : n ≤ 2000) (hs : ∀ x ∈ l, x ≤ 100) :
    Calls Try.prog 18 #[.pointer (some ⟨g, 0, none⟩)] w fun e w' => e = .returned (.int .i64 ((l.sum : Nat) : Int)) ∧ w' = w := by
  have c6 := h.c6
  have hlen : l.length = n := by rw [← nts_length]; exact hl.len
  have hsum : ∀ k, (l.take k).sum ≤ 100 * k := fun k => by
    induction k with
    | zero => simp
    | succ k ih =>
      rw [List.take_add_one, List.sum_append]
      cases hx : l[k]? with
      | none => simp; omega
      | some x =>
        have := hs x (List.mem_of_getElem? hx)
        simp
        omega
  have HS := Lib.hid hsum
  have HL := Lib.hid hl
  have Hlen := Lib.hid hlen
  have HS2 := Lib.hid hs
  clear h hsum hl hlen hs
  go_enter Try.func18, Try.ntmps18
  go_wp2
  go_loop [3, 11] (fun s i => ∃ k : Nat, k ≤ n ∧ i = .int .i64 (k : Int) ∧ s = .int .i64 (((l.take k).sum : Nat) : Int)) (fun _ i => n - (Go.RowKit.intOf i).toNat)
  case atStart => exact ⟨0, Nat.zero_le _, rfl, rfl⟩
  case round =>
    obtain ⟨k, hk, rfl, rfl⟩ := hrel
    have h1 := HS.out k
    by_cases hlt : k < n
    · obtain ⟨b, off, x, rfl, hb, hx, hcell⟩ := HL.out.cell hlt
      obtain ⟨y, hy, rfl⟩ := nts_get hx
      have hy1 := HS2.out y (List.mem_of_getElem? hy)
      have e1 : (l.take (k + 1)).sum = (l.take k).sum + y := by rw [List.take_add_one, hy, List.sum_append]; simp
      have E1 := Lib.hid e1
      have HX := Lib.hid hx
      have HY := Lib.hid hy
      clear e1 hx hy
      generalize (l.take k).sum = s at h1 E1
      go_wp2
      refine ⟨⟨k + 1, hlt, by go_num, ?_⟩, by simp [Go.RowKit.intOf]; omega⟩
      rw [E1.out, Int.natCast_add]
    · obtain rfl : k = n := by omega
      have e1 : l.take k = l := List.take_of_length_le (by rw [Hlen.out]; exact Nat.le_refl _)
      rw [e1]
      clear e1 h1
      go_wp2
      go_ret
      exact ⟨rfl, rfl⟩
end
end Go.Proofs.Ytcogglanbpphpaa

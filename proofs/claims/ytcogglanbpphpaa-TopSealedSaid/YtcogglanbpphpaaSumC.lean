/-
  What bytes.Equal, bytes.Clone and Open do: contracts, one a function.
-/
import Derived.Test.YtcogglanbpphpaaSumB
namespace Go.Proofs.Ytcogglanbpphpaa
open Go.RowKit

set_option maxHeartbeats 400000 in
theorem equal_any (A A2 : Option Addr) (n c n2 c2 : Nat) (l m : List UInt8) (w : World) (ha : Rd w A n l) (hb : Rd w A2 n2 m) :
    Calls Try.prog 30 #[.slice A n c, .slice A2 n2 c2] w fun e w' => e = .returned (.bool (l == m)) ∧ w = w' := by
  have k1 := ha.conv (P := Try.prog) c 32 5 9 Try.underlying32 Try.underlying5 Try.underlying9
  have k2 := hb.conv (P := Try.prog) c2 32 5 9 Try.underlying32 Try.underlying5 Try.underlying9
  go_enter Try.func30, Try.ntmps30
  go_wp2_with fail
  go_ret
  exact ⟨rfl, rfl⟩

set_option maxHeartbeats 400000 in
theorem clone_any (A : Option Addr) (n c : Nat) (l : List UInt8) (w : World) (hb : Rd w A n l) (hn : n ≤ 70368744177664) :
    Calls Try.prog 31 #[.slice A n c] w (Gives w l) := by
  have hq := run_isnil (P := Try.prog) w 32 5 A n c Try.underlying32
  cases A with
  | none =>
    obtain rfl : l = [] := by
      cases l with
      | nil => rfl
      | cons x l =>
        obtain ⟨_, _, e, _⟩ := hb.at_ (by have := hb.len; simp at this; omega)
        cases e
    go_enter Try.func31, Try.ntmps31
    go_wp2_with fail
    go_ret
    exact ⟨_, rfl, Own.nil, Below.refl _ _⟩
  | some a =>
    have ho : Own 5 (w.alloc (.cells #[] 5)) w.heap.size (.slice (some ⟨w.heap.size, 0, none⟩) 0 0) [] := Own.lit #[] (Nat.le_refl _) rfl (by simp [maxLen])
    have hb0 : Below w.heap.size w (w.alloc (.cells #[] 5)) := (Below.refl _ _).alloc (Nat.le_refl _) _
    obtain ⟨v2, w2, hap, hown2, hg, _⟩ := run_app (P := Try.prog) w.heap.size 32 32 5 Try.underlying32 Try.infoU8 _ _ ho (some a) n c l (hb.alloc _) (by simp; omega) (by simp)
    have hb2 := below_app hb0 ho hg (by simp)
    rw [List.nil_append] at hown2
    clear hb0 ho hg
    go_enter Try.func31, Try.ntmps31
    go_wp2_with (at_builtin; refine wpList_append_run hap rfl _ _ rfl rfl rfl rfl ?_)
    go_ret
    exact ⟨v2, rfl, hown2, hb2⟩

/-- Bytes are sealed: the last four are those of the sum of the others. -/
def sealOf (l : List UInt8) : List UInt8 := l ++ be 4 (sumOf l).toNat

set_option maxHeartbeats 400000 in
theorem open_short (A : Option Addr) (n c : Nat) (w : World) (h : n < 4) :
    Calls Try.prog 10 #[.slice A n c] w (Refused w 20) := by
  go_enter Try.func10, Try.ntmps10
  go_wp2_with fail
  go_ret2
  exact ⟨rfl, Below.refl _ _⟩

set_option maxHeartbeats 1000000 in
theorem open_any (A : Option Addr) (n c : Nat) (l : List UInt8) (w : World) (hb : Rd w A n l) (h : 4 ≤ n) (hc : n ≤ c) (_hm : c ≤ maxLen) (hn : n ≤ 70368744177664) :
    Calls Try.prog 10 #[.slice A n c] w
      fun e w' => (sealOf (l.take (n - 4)) = l ∧ GivesE w (l.take (n - 4)) 0 e w') ∨ (sealOf (l.take (n - 4)) ≠ l ∧ Refused w 20 e w') := by
  unfold maxLen at _hm
  have hr : Rd w A (n - 4) (l.take (n - 4)) := hb.take (by omega)
  obtain ⟨k, rfl⟩ : ∃ k, n = k + 4 := ⟨n - 4, by omega⟩
  have he : k + 4 - 4 = k := by omega
  rw [he] at hr ⊢
  obtain ⟨r, hrd⟩ : ∃ r, r = l.take k := ⟨_, rfl⟩
  rw [← hrd] at hr ⊢
  have Hl := Lib.hid hr.len
  clear hrd he h
  go_enter Try.func10, Try.ntmps10
  go_wp2_with fail
  refine (seal_any A k c r w hr (by omega)).mono ?_
  rintro e w1 ⟨v1, rfl, hown1, b1⟩
  have hsl : (r ++ be 4 (sumOf r).toNat).length = k + 4 := by rw [List.length_append, be_length, Hl.out]
  obtain ⟨A1, c1, rfl, _, _, r1⟩ := hown1.shapeN hsl
  clear hown1 hsl
  go_wp2_with fail
  refine (equal_any A1 A (k + 4) c1 (k + 4) c _ l w1 r1 (hb.below b1)).mono ?_
  rintro e w2 ⟨rfl, rfl⟩
  by_cases hq : r ++ be 4 (sumOf r).toNat = l
  · have hd : (r ++ be 4 (sumOf r).toNat == l) = true := beq_iff_eq.2 hq
    have Hq := Lib.hid hq
    clear hq r1
    go_wp2_with fail
    refine (clone_any A k c r w1 (hr.below b1) (by omega)).mono ?_
    rintro e w3 ⟨v3, rfl, hown3, b3⟩
    go_wp2
    go_ret2
    exact .inl ⟨Hq.out, v3, rfl, hown3.mono b1.size, b1.trans (b3.mono b1.size)⟩
  · have hd : (r ++ be 4 (sumOf r).toNat == l) = false := beq_eq_false_iff_ne.2 hq
    have Hq := Lib.hid hq
    clear hq r1
    go_wp2
    go_ret2
    exact .inr ⟨Hq.out, rfl, b1⟩

/-- What is sealed is opened; what is not is refused. -/
theorem open_yes (A : Option Addr) (n c : Nat) (l : List UInt8) (w : World) (hb : Rd w A n l) (h : 4 ≤ n) (hc : n ≤ c) (hm : c ≤ maxLen) (hn : n ≤ 70368744177664) (hs : sealOf (l.take (n - 4)) = l) :
    Calls Try.prog 10 #[.slice A n c] w (GivesE w (l.take (n - 4)) 0) :=
  (open_any A n c l w hb h hc hm hn).mono fun e w' hd => by
    rcases hd with ⟨_, h⟩ | ⟨h, _⟩
    · exact h
    · exact absurd hs h
theorem open_no (A : Option Addr) (n c : Nat) (l : List UInt8) (w : World) (hb : Rd w A n l) (hc : n ≤ c) (hm : c ≤ maxLen) (hn : n ≤ 70368744177664) (hs : n < 4 ∨ sealOf (l.take (n - 4)) ≠ l) :
    Calls Try.prog 10 #[.slice A n c] w (Refused w 20) := by
  by_cases h : n < 4
  · exact open_short A n c w h
  · refine (open_any A n c l w hb (by omega) hc hm hn).mono fun e w' hd => ?_
    rcases hd with ⟨h1, _⟩ | ⟨_, h1⟩
    · exact absurd h1 (hs.resolve_left h)
    · exact h1
end Go.Proofs.Ytcogglanbpphpaa

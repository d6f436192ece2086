/-
  The document's count and Sure: contracts.
-/
import Derived.Test.YtbfamijlaoopaaaVwRefB
import Derived.Test.YtbfamijlaoopaaaVwSure
namespace Go.Proofs.Ytbfamijlaoopaaa
open Go.RowKit
def akc (a : Int × Int) : List Value := [.int .i64 a.1, .int .i64 a.2]
theorem akc_len (a : Int × Int) : (akc a).length = 2 := rfl
/-- A slice reads as these acks. -/
structure RdK (w : World) (A : Option Addr) (n : Nat) (l : List (Int × Int)) : Prop where
  len : l.length = n
  rd : RdC w A n 2 (l.flatMap akc)
section
variable {w w' : World} {A : Option Addr} {n : Nat} {l : List (Int × Int)}
theorem RdK.below (h : RdK w A n l) (hb : Below w.heap.size w w') : RdK w' A n l := ⟨h.len, h.rd.below hb⟩
theorem RdK.get (h : RdK w A n l) {j : Nat} (hj : j < n) : ∃ b off x, A = some ⟨b, off, none⟩ ∧ b < w.heap.size ∧ l[j]? = some x ∧ w.cell? ⟨b, off + j * 2, none⟩ = some (.int .i64 x.1) ∧ w.cell? ⟨b, off + j * 2 + 1, none⟩ = some (.int .i64 x.2) := by
  obtain ⟨b, off, e, hb, hc⟩ := h.rd.at_ (by omega)
  have hl : j < l.length := by have := h.len; omega
  have hg := List.getElem?_eq_getElem hl
  exact ⟨b, off, l[j], e, hb, hg, hc (j * 2) _ (fm_get akc_len hg (i := 0) rfl), by rw [Nat.add_assoc]; exact hc (j * 2 + 1) _ (fm_get akc_len hg (i := 1) rfl)⟩
end
theorem hasA_snoc {l : List (Int × Int)} {j : Nat} {a : Int × Int} (h : l[j]? = some a) (x k : Int) : hasA (l.take (j + 1)) x k = (hasA (l.take j) x k || (a.1 == k && decide (x ≤ a.2))) := by
  rw [List.take_add_one, h]
  simp [hasA]
def CoRel (W : World) (n c0 : Nat) (l : List (Int × Int)) (x : Int) (c i : Value) (wr : World) : Prop := ∃ k : Nat, k ≤ n ∧ i = .int .i64 ((k : Int) + 1) ∧ c = .int .i64 ((c0 + cntN (hasA l x) k : Nat) : Int) ∧ wr = W
def CoIn (W : World) (l : List (Int × Int)) (x k : Int) (c i : Value) (wr : World) : Prop := ∃ j : Nat, j ≤ l.length ∧ i = .int .i64 (j : Int) ∧ c = .bool (hasA (l.take j) x k) ∧ wr = W
set_option maxHeartbeats 2000000 in
theorem rcount_any {A : Option Addr} {m c : Nat} {l : List (Int × Int)} {w : World} (h : RdK w A m l) (hm : m ≤ 1000000) (n : Nat) (hn : n ≤ 7) (own x : Int) : Calls Try.prog 34 #[.int .i64 (n : Int), .int .i64 own, .slice A m c, .int .i64 x] w fun e w' => e = .returned (.int .i64 ((cntS n own l x : Nat) : Int)) ∧ w' = w := by
  have HR := Lib.hid h
  have HL := Lib.hid h.len
  clear h
  obtain ⟨c0, hc0, hc1⟩ : ∃ c0 : Nat, (c0 = if x ≤ own then 1 else 0) ∧ c0 ≤ 1 := ⟨_, rfl, by split <;> omega⟩
  have HE := Lib.hid (show cntS n own l x = c0 + cntN (hasA l x) n by rw [hc0]; rfl)
  have hor : (c0 = 1 ∧ x ≤ own) ∨ (c0 = 0 ∧ ¬ x ≤ own) := by
    by_cases ho : x ≤ own
    · exact .inl ⟨by rw [hc0, if_pos ho], ho⟩
    · exact .inr ⟨by rw [hc0, if_neg ho], ho⟩
  clear hc0
  rcases hor with ⟨h0, ho⟩ | ⟨h0, ho⟩
  all_goals
    have HC0 := Lib.hid h0
    clear h0
    go_enter Try.func34, Try.ntmps34
    go_wp2
    go_loopw [9, 10] (CoRel w n c0 l x) (fun _ i _ => n + 1 - (Go.RowKit.intOf i).toNat)
    case atStart => exact ⟨0, Nat.zero_le _, rfl, by rw [HC0.out]; rfl, rfl⟩
    case round =>
      obtain ⟨k, hk, rfl, rfl, rfl⟩ := hrel
      have hck := cntN_le (hasA l x) k
      by_cases hlt : k < n
      · have hki : (k : Int) + 1 ≤ (n : Int) := by omega
        have hs := cntN_succ (hasA l x) k
        rw [show ((k + 1 : Nat) : Int) = (k : Int) + 1 by omega] at hs
        generalize cntN (hasA l x) k = C at hs hck
        have Hs := Lib.hid hs
        clear hs
        go_wp2
        go_loopw [11, 12] (CoIn wr l x ((k : Int) + 1)) (fun _ i _ => m - (Go.RowKit.intOf i).toNat)
        case atStart => exact ⟨0, Nat.zero_le _, rfl, by simp [hasA], rfl⟩
        case round =>
          obtain ⟨j, hj, rfl, rfl, rfl⟩ := hrel
          rw [HL.out] at hj
          by_cases hjm : j < m
          · obtain ⟨b, off, ⟨y, z⟩, rfl, hb, hy, d0, d1⟩ := HR.out.get hjm
            have hji : (j : Int) < (m : Int) := by omega
            have hsn := hasA_snoc hy x ((k : Int) + 1)
            simp only at d0 d1 hsn
            clear hb hy
            generalize hasA (l.take j) x ((k : Int) + 1) = q at hsn
            have Hsn := Lib.hid hsn
            clear hsn
            cases q
            · by_cases he : y = (k : Int) + 1
              · have he1 : (y == (k : Int) + 1) = true := by simp [he]
                have he2 : decide (y = (k : Int) + 1) = true := by simp [he]
                have Hsn2 := Lib.hid (show hasA (l.take (j + 1)) x ((k : Int) + 1) = decide (x ≤ z) by rw [Hsn.out, he1]; simp)
                clear he
                go_wp2
                go_roundw
                case rel => exact ⟨j + 1, by rw [HL.out]; omega, by go_num, by rw [Hsn2.out], rfl⟩
                case measure => simp [Go.RowKit.intOf]; omega
              · have he1 : (y == (k : Int) + 1) = false := by simp [he]
                have he2 : decide (y = (k : Int) + 1) = false := by simp [he]
                have Hsn2 := Lib.hid (show hasA (l.take (j + 1)) x ((k : Int) + 1) = false by rw [Hsn.out, he1]; simp)
                clear he
                go_wp2
                go_roundw
                case rel => exact ⟨j + 1, by rw [HL.out]; omega, by go_num, by rw [Hsn2.out], rfl⟩
                case measure => simp [Go.RowKit.intOf]; omega
            · have Hsn2 := Lib.hid (show hasA (l.take (j + 1)) x ((k : Int) + 1) = true by rw [Hsn.out]; simp)
              go_wp2
              go_roundw
              case rel => exact ⟨j + 1, by rw [HL.out]; omega, by go_num, by rw [Hsn2.out], rfl⟩
              case measure => simp [Go.RowKit.intOf]; omega
          · obtain rfl : j = m := by omega
            have hji : ¬ ((j : Int) < (j : Int)) := by omega
            have hta : l.take j = l := List.take_of_length_le (by rw [HL.out]; omega)
            rw [hta]
            clear hta
            generalize hasA l x ((k : Int) + 1) = q at Hs
            cases q
            · have Hs2 := Lib.hid (show cntN (hasA l x) (k + 1) = C by rw [Hs.out]; simp)
              go_wp2
              go_roundw
              case rel => exact ⟨k + 1, by omega, by go_num, by rw [Hs2.out], rfl⟩
              case measure => simp [Go.RowKit.intOf]; omega
            · have Hs2 := Lib.hid (show cntN (hasA l x) (k + 1) = C + 1 by rw [Hs.out]; simp)
              go_wp2
              go_roundw
              case rel => exact ⟨k + 1, by omega, by go_num, by rw [Hs2.out]; first | rfl | go_num, rfl⟩
              case measure => simp [Go.RowKit.intOf]; omega
      · obtain rfl : k = n := by omega
        have hki : ¬ ((k : Int) + 1 ≤ (k : Int)) := by omega
        go_wp2
        go_ret
        exact ⟨by rw [HE.out]; rfl, rfl⟩
end Go.Proofs.Ytbfamijlaoopaaa

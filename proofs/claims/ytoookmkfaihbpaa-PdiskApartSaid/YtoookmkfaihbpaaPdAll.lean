/-
  All sectors, one behind the other: plain mathematics, and the contract of tumuluslaw07.all.
-/
import Derived.Test.YtoookmkfaihbpaaPdTwo
namespace Go.Proofs.Ytoookmkfaihbpaa
open Go.RowKit

def cat (f : Nat → List UInt8) (n : Nat) : List UInt8 := (List.range n).flatMap f
theorem cat_succ (f : Nat → List UInt8) (n : Nat) : cat f (n + 1) = cat f n ++ f n := by simp [cat, List.range_succ]
section
variable {f g : Nat → List UInt8}
theorem cat_len : ∀ (n : Nat), (∀ i, i < n → (f i).length = 64) → (cat f n).length = n * 64
  | 0, _ => rfl
  | n + 1, h => by rw [cat_succ, List.length_append, cat_len n fun i hi => h i (by omega), h n (by omega)]; omega
theorem cat_congr : ∀ (n : Nat), (∀ i, i < n → f i = g i) → cat f n = cat g n
  | 0, _ => rfl
  | n + 1, h => by rw [cat_succ, cat_succ, cat_congr n fun i hi => h i (by omega), h n (by omega)]
theorem cat_take : ∀ (n k : Nat), k ≤ n → (∀ i, i < n → (f i).length = 64) → (cat f n).take (64 * k) = cat f k
  | 0, k, hk, _ => by
    obtain rfl : k = 0 := by omega
    rfl
  | n + 1, k, hk, h => by
    have hl := cat_len n fun i hi => h i (show i < n + 1 by omega)
    by_cases e : k = n + 1
    · subst e
      rw [List.take_of_length_le]
      rw [cat_len (n + 1) h]
      omega
    · rw [cat_succ, List.take_append_of_le_length (by omega)]
      exact cat_take n k (by omega) fun i hi => h i (by omega)
theorem cat_drop : ∀ (n m : Nat), (∀ i, i < n → (f i).length = 64) → (∀ i, i < n → (g i).length = 64) → (∀ i, m ≤ i → f i = g i) → (cat f n).drop (64 * m) = (cat g n).drop (64 * m)
  | 0, _, _, _, _ => rfl
  | n + 1, m, h, h', e => by
    have hl := cat_len n fun i hi => h i (show i < n + 1 by omega)
    have hl' := cat_len n fun i hi => h' i (show i < n + 1 by omega)
    by_cases hm : m ≤ n
    · rw [cat_succ, cat_succ, List.drop_append_of_le_length (by omega), List.drop_append_of_le_length (by omega), cat_drop n m (fun i hi => h i (by omega)) (fun i hi => h' i (by omega)) e, e n hm]
    · rw [List.drop_of_length_le (by rw [cat_len (n + 1) h]; omega), List.drop_of_length_le (by rw [cat_len (n + 1) h']; omega)]
theorem cat_mid : ∀ (n k : Nat), k < n → (∀ i, i < n → (f i).length = 64) → ((cat f n).drop (64 * k)).take 64 = f k
  | 0, k, hk, _ => absurd hk (Nat.not_lt_zero _)
  | n + 1, k, hk, h => by
    have hl := cat_len n fun i hi => h i (show i < n + 1 by omega)
    by_cases e : k = n
    · subst e
      rw [cat_succ, List.drop_append_of_le_length (by omega), List.drop_of_length_le (by omega), List.nil_append, List.take_of_length_le]
      rw [h k (by omega)]
      exact Nat.le_refl _
    · rw [cat_succ, List.drop_append_of_le_length (by omega), List.take_append_of_le_length]
      · exact cat_mid n k (by omega) fun i hi => h i (by omega)
      · rw [List.length_drop, hl]
        omega
end
def AllRel (w : World) (f : Nat → List UInt8) (n : Nat) (s i : Value) (wr : World) : Prop := ∃ k : Nat, k ≤ n ∧ i = .int .i64 (k : Int) ∧ s = .string ⟨(cat f k).toArray⟩ ∧ Below w.heap.size w wr
def AllPost (w : World) (l : List UInt8) (e : Ending) (w' : World) : Prop := e = .returned (.string ⟨l.toArray⟩) ∧ Below w.heap.size w w'
set_option maxRecDepth 20000 in
set_option maxHeartbeats 2000000 in
theorem all_any {w : World} {p q r n : Nat} {S : Dk} (h : DAt w p q r n S) {l : List UInt8} (hl : l = cat S.now n) : Calls Try.prog 21 #[.pointer (some ⟨p, 0, none⟩)] w (AllPost w l) := by
  have hmost := h.most
  have Hh := Lib.hid h
  have Hl := Lib.hid hl
  clear h hl
  go_enter Try.func21, Try.ntmps21
  go_wp2
  go_loopw [3, 4] (AllRel w S.now n) (fun _ i _ => n - (intOf i).toNat)
  case atStart => exact ⟨0, Nat.zero_le _, rfl, rfl, Below.refl _ _⟩
  case round =>
    obtain ⟨k, hk, rfl, rfl, hb⟩ := hrel
    have HB := Lib.hid hb
    have HD := Lib.hid (Hh.out.below hb)
    clear hb
    have ks := size_any HD.out
    by_cases hlt : k < n
    · have hin : 0 ≤ (k : Int) ∧ (k : Int) < (n : Int) := ⟨by omega, by omega⟩
      have kr := read_any HD.out (k : Int) (l := S.now k) (er := 0) (by rw [rdL, if_pos hin, Int.toNat_natCast]) (by rw [rdE, if_pos hin])
      have hl64 := HD.out.len k hlt
      have hcl := cat_len (f := S.now) k fun i hi => HD.out.len i (by omega)
      obtain ⟨_, hin⟩ := hin
      have hs : ByteArray.mk (cat S.now k).toArray ++ ByteArray.mk (S.now k).toArray = ByteArray.mk (cat S.now (k + 1)).toArray := by rw [str_append, cat_succ]
      have HH := Lib.hid hs
      have HC := Lib.hid hcl
      clear hs hcl
      go_upto_region 6 with (first
        | (go_at_call 20; refine ks.mono ?_; rintro e w' ⟨rfl, rfl⟩)
        | (go_at_call 17; refine kr.mono ?_; rintro e w2 ⟨v, rfl, ho, hb2⟩))
      obtain ⟨A1, cp, rfl, hcp, hcm, hrd⟩ := ho.shapeN hl64
      have v1 := hrd.conv (P := Try.prog) cp 23 5 9 Try.underlying23 Try.underlying5 Try.underlying9
      have HB2 := Lib.hid (HB.out.trans (hb2.mono HB.out.size))
      have k4 := run_string_add_sum (P := Try.prog) (w := w2) ⟨(cat S.now k).toArray⟩ ⟨(S.now k).toArray⟩ (by simp [ByteArray.size, HC.out, hl64]; omega)
      rw [HH.out] at k4
      clear ho hrd hb2 kr ks hl64
      go_wp2
      go_roundw
      case rel => exact ⟨k + 1, hlt, by go_num, rfl, HB2.out⟩
      case measure => simp [intOf]; omega
    · obtain rfl : k = n := by omega
      rw [← Hl.out]
      have hge : ¬ (k : Int) < (k : Int) := by omega
      go_wp2_with (go_at_call 20; refine ks.mono ?_; rintro e w' ⟨rfl, rfl⟩)
      go_ret
      exact ⟨rfl, HB.out⟩
end Go.Proofs.Ytoookmkfaihbpaa

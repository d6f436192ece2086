/-
  The walk of the law CodeRows.
-/
import Derived.Test.YtllbebbmnjojgaaLawC
import Derived.Test.YtllbebbmnjojgaaLawE0
import Derived.Test.YtllbebbmnjojgaaPlain
namespace Go.Proofs.Ytllbebbmnjojgaa
open Go.RowKit

/-- A slice of strings that reads as ss. -/
def Rs (w : World) (A : Option Addr) (n : Nat) (ss : List ByteArray) : Prop :=
  ss.length = n ∧ (0 < n → ∃ b off, A = some ⟨b, off, none⟩ ∧ b < w.heap.size ∧ ∀ j s, ss[j]? = some s → w.cell? ⟨b, off + j, none⟩ = some (.string s))

theorem rs_of_row {w : World} {a : Option Addr} {len cap : Nat} {zs : List ByteArray}
    (h : (a = none ∧ len = 0 ∧ cap = 0 ∧ zs = []) ∨ ∃ x, a = some x ∧ len ≤ cap ∧ cap ≤ maxLen ∧ zs.length = cap ∧ (∀ i, i < zs.length → w.cell? (x.add i) = some (.string (zs.getD i ByteArray.empty))) ∧ ∀ s ∈ zs, s.size ≤ maxLen) :
    Rs w a len (zs.take len) := by
  rcases h with ⟨rfl, rfl, rfl, rfl⟩ | ⟨x, rfl, hl, hm, hz, hc, hw⟩
  · exact ⟨rfl, fun h => absurd h (by omega)⟩
  · refine ⟨by simp; omega, fun hp => ?_⟩
    obtain ⟨b, off, spot⟩ := x
    have h0 := hc 0 (by omega)
    have hspot : spot = none := by simpa [Addr.add] using World.cell?_spot h0
    subst hspot
    have hlt : b < w.heap.size := World.block_lt_of_cell? w _ h0
    refine ⟨b, off, rfl, by simpa [Addr.add] using hlt, fun j s hs => ?_⟩
    rw [List.getElem?_take] at hs
    split at hs
    · rename_i hj
      have hjl : j < zs.length := by omega
      have := hc j hjl
      rw [add_plain] at this
      rw [this]
      rw [List.getElem?_eq_getElem hjl] at hs
      simp [List.getD, List.getElem?_eq_getElem hjl]
      injection hs
    · cases hs
/-- Texts, one behind the other. -/
def enc : List ByteArray → List UInt8
  | [] => []
  | s :: r => be 4 s.size ++ (s.data.toList ++ enc r)
def total : List ByteArray → Nat
  | [] => 0
  | s :: r => s.size + total r
theorem enc_snoc (l : List ByteArray) (s : ByteArray) : enc (l ++ [s]) = enc l ++ (be 4 s.size ++ s.data.toList) := by
  induction l with
  | nil => simp [enc]
  | cons x l ih => simp [enc, ih, List.append_assoc]
theorem total_snoc (l : List ByteArray) (s : ByteArray) : total (l ++ [s]) = total l + s.size := by
  induction l with
  | nil => simp [total]
  | cons x l ih => simp [total, ih]; omega
theorem enc_length (l : List ByteArray) : (enc l).length = 4 * l.length + total l := by
  induction l with
  | nil => rfl
  | cons x l ih =>
    have : x.data.toList.length = x.size := rfl
    simp only [enc, total, List.length_append, List.length_cons, be_length, ih, this]
    omega

/-- Each of the first k texts is no more than a text may be. -/
def Sizes (ss : List ByteArray) (k : Nat) : Prop := ∀ (j : Nat) (h : j < ss.length), j < k → ss[j].size ≤ 65536
/-- The first loop's relation. -/
def LayRel (ss : List ByteArray) (m : Nat) (w : World) (n v e i : Value) (wr : World) : Prop :=
  ∃ k : Nat, k ≤ m ∧ i = .int .i64 k ∧ e = .int .i64 0 ∧ n = .int .i64 (total (ss.take k) : Nat) ∧ total (ss.take k) ≤ 262144 ∧ Below w.heap.size w wr ∧ Sizes ss k ∧
    ∃ A c, v = .slice A (4 + (enc (ss.take k)).length) c ∧ Rd wr A (4 + (enc (ss.take k)).length) (be 4 m ++ enc (ss.take k))
/-- The second loop's. -/
def TakeRel (ss : List ByteArray) (m g : Nat) (w : World) (i : Value) (wr : World) : Prop :=
  ∃ k : Nat, k ≤ m ∧ i = .int .i64 k ∧ Below w.heap.size w wr ∧ Rdr wr g (enc (ss.drop k))

set_option maxRecDepth 100000 in
set_option maxHeartbeats 4000000 in
theorem codeRows_walk (B : Option Addr) (m mc : Nat) (ss : List ByteArray) (w : World) (hs : Rs w B m ss) :
    Calls Try.prog 10 #[.slice B m mc] w (Holds w) := by
  by_cases hm : 1000 < m
  · go_enter Try.func10, Try.ntmps10
    go_wp2
    go_ret
    exact ⟨rfl, Below.refl _ _⟩
  have HL := Lib.hid hs.1
  go_enter Try.func10, Try.ntmps10
  go_wp2_with fail
  refine (putNumber_yes none 0 0 [] (m : Int) w Rd.nil (by omega) (by omega) (by omega)).mono ?_
  rintro e w1 ⟨v1, rfl, o1, b1⟩
  rw [List.nil_append, Int.toNat_natCast] at o1
  obtain ⟨A1, c1, rfl, _, _, r1⟩ := o1.shapeN (n := 4) (be_length _ _)
  clear o1
  go_wp2_with fail
  go_loopw [3, 4, 5, 6] (LayRel ss m w) (fun _ _ _ i _ => m - (intOf i).toNat)
  case atStart => exact ⟨0, Nat.zero_le _, rfl, rfl, rfl, Nat.zero_le _, b1, fun _ _ h => absurd h (by omega), A1, c1, rfl, by simpa [enc] using r1⟩
  case round =>
    obtain ⟨k, hk, rfl, rfl, rfl, ht, hbw, HM0, A2, c2, rfl, r2⟩ := hrel
    have HM := Lib.hid HM0
    clear HM0
    clear b1 r1
    by_cases hlt : k < m
    · obtain ⟨bb, boff, rfl, hbb, hcz0⟩ := hs.2 (by omega)
      have hkl : k < ss.length := by rw [HL.out]; exact hlt
      have hx := hcz0 k ss[k] (List.getElem?_eq_getElem hkl)
      rw [← hbw.cell (p := ⟨bb, boff + k, none⟩) hbb] at hx
      have HT : Hid (ss.take (k + 1) = ss.take k ++ [ss[k]]) := List.take_succ_eq_append_getElem hkl
      have hkm : (k : Int) < (m : Int) := by omega
      have hen := enc_length (ss.take k)
      rw [List.length_take, Nat.min_eq_left (by omega)] at hen
      have hen2 : (enc (ss.take k)).length ≤ 4 * k + 262144 := by omega
      have HN : Hid (ss[k].size ≤ 65536 → Sizes ss (k + 1)) := fun h j hj hjk => by
        rcases Nat.lt_or_ge j k with h1 | h1
        · exact HM.out j hj h1
        · obtain rfl : j = k := by omega
          exact h
      generalize ss[k] = s at *
      clear hcz0 hen hkl
      by_cases h1 : 65536 < s.size
      · have hd : decide (65536 < (s.size : Int)) = true := by simp; omega
        go_wp2_with fail
        refine (puts_any wr).mono ?_
        rintro e w4 ⟨rfl, b4⟩
        go_wp2_with fail
        refine (reads_any w4).mono ?_
        rintro e w5 ⟨rfl, b5⟩
        go_wp2
        go_ret
        exact ⟨rfl, hbw.trans ((b4.trans (b5.mono b4.size)).mono hbw.size)⟩
      have hd : decide (65536 < (s.size : Int)) = false := by simp; omega
      by_cases h2 : 262144 - (total (ss.take k) : Int) < (s.size : Int)
      · have hd2 : decide (262144 - ((total (ss.take k) : Nat) : Int) < (s.size : Int)) = true := by simpa using h2
        go_wp2_with fail
        refine (puts_any wr).mono ?_
        rintro e w4 ⟨rfl, b4⟩
        go_wp2_with fail
        refine (reads_any w4).mono ?_
        rintro e w5 ⟨rfl, b5⟩
        go_wp2
        go_ret
        exact ⟨rfl, hbw.trans ((b4.trans (b5.mono b4.size)).mono hbw.size)⟩
      have hd2 : decide (262144 - ((total (ss.take k) : Nat) : Int) < (s.size : Int)) = false := by simpa using h2
      have HE := Lib.hid (enc_snoc (ss.take k) s)
      have HO := Lib.hid (total_snoc (ss.take k) s)
      rw [← HT.out] at HE HO
      have ht2 : total (ss.take k) + s.size ≤ 262144 := by omega
      generalize total (ss.take k) = T at *
      generalize hEk : enc (ss.take k) = E at *
      have HEk := Lib.hid hEk
      clear hEk
      go_wp2_with fail
      refine (putText_yes A2 (4 + E.length) c2 _ s wr r2 (by omega) (by omega)).mono ?_
      rintro e w4 ⟨v4, rfl, o4, b4⟩
      have e4 : be 4 m ++ E ++ be 4 s.size ++ s.data.toList = be 4 m ++ enc (ss.take (k + 1)) := by rw [HE.out]; simp only [List.append_assoc]
      rw [e4] at o4
      obtain ⟨A4, c4, rfl, _, _, r4⟩ := o4.shapeN (n := 4 + (enc (ss.take (k + 1))).length) (by rw [List.length_append, be_length])
      clear o4 e4 hx
      go_wp2
      go_roundw
      case rel => exact ⟨k + 1, by omega, by go_num, rfl, by rw [HO.out]; go_num, by rw [HO.out]; exact ht2, hbw.trans (b4.mono hbw.size), HN.out (by omega), A4, c4, rfl, r4⟩
      case measure => simp [intOf]; omega
    · obtain rfl : k = m := by omega
      rw [List.take_of_length_le (by rw [HL.out]; omega)] at r2 ht ⊢
      have hen := enc_length ss
      rw [HL.out] at hen
      have hen2 : (enc ss).length ≤ 4 * k + 262144 := by omega
      clear hen
      have E1 := Lib.hid (rnum_put k (by omega) (enc ss))
      have D1 := Lib.hid (drop_be 4 k (enc ss))
      go_wp2_with fail
      refine (new_any A2 _ c2 _ wr r2 (by omega)).mono ?_
      rintro e w5 ⟨g, rfl, hg, _, q5, b5⟩
      have hgw : w.heap.size ≤ g := Nat.le_trans hbw.size hg
      have hb5 := hbw.trans (b5.mono hbw.size)
      clear r2 b5 hg hbw
      go_wp2_with fail
      refine (number_any g _ w5 q5).mono ?_
      rintro e w6 ⟨rfl, q6, s6⟩
      have hb6 := below_step hb5 s6 hb5.size hgw
      rw [E1.out] at q6 ⊢
      rw [D1.out] at q6
      clear s6 q5
      go_wp2_with fail
      go_loopw [10] (TakeRel ss k g w) (fun i _ => k - (intOf i).toNat)
      case atStart => exact ⟨0, Nat.zero_le _, rfl, hb6, q6⟩
      case round =>
        obtain ⟨j, hj, rfl, hbw2, q⟩ := hrel
        clear q6 hb6
        by_cases hlt2 : j < k
        · obtain ⟨bb, boff, rfl, hbb, hcz0⟩ := hs.2 (by omega)
          have hjl : j < ss.length := by rw [HL.out]; exact hlt2
          have hx := hcz0 j ss[j] (List.getElem?_eq_getElem hjl)
          rw [← hbw2.cell (p := ⟨bb, boff + j, none⟩) hbb] at hx
          have hsz : Hid (ss[j].size ≤ 65536) := by
            exact HM.out j hjl hlt2
          have hdr : ss.drop j = ss[j] :: ss.drop (j + 1) := List.drop_eq_getElem_cons hjl
          have HR := Lib.hid (rtext_put ss[j].data.toList hsz.out (enc (ss.drop (j + 1))))
          have HD : Hid (enc (ss.drop j) = be 4 ss[j].data.toList.length ++ (ss[j].data.toList ++ enc (ss.drop (j + 1)))) := by
            show _ = _
            rw [hdr]
            rfl
          have hjk : (j : Int) < (k : Int) := by omega
          clear hcz0 hdr
          generalize ss[j] = s at *
          clear hjl
          rw [HD.out] at q
          have HD2 : Hid ((be 4 s.data.toList.length ++ (s.data.toList ++ enc (ss.drop (j + 1)))).drop (4 + s.data.toList.length) = enc (ss.drop (j + 1))) := by
            show _ = _
            rw [← List.drop_drop, drop_be, List.drop_append_of_le_length (Nat.le_refl _), List.drop_length, List.nil_append]
          go_wp2_with fail
          refine (text_any g _ wr q).mono ?_
          rintro e w8 ⟨rfl, q8, s8⟩
          have hb8 := below_step hbw2 s8 hbw2.size hgw
          rw [HR.out] at q8 ⊢
          rw [HD2.out] at q8
          rw [show (ByteArray.mk s.data.toList.toArray) = s from rfl]
          have hx8 : w8.cell? ⟨bb, boff + j, none⟩ = some (.string s) := by
            rw [hb8.cell (p := ⟨bb, boff + j, none⟩) hbb, ← hbw2.cell (p := ⟨bb, boff + j, none⟩) hbb]
            exact hx
          clear hx s8 q hbw2
          go_wp2
          go_roundw
          case rel => exact ⟨j + 1, by omega, by go_num, hb8, q8⟩
          case measure => simp [intOf]; omega
        · obtain rfl : j = k := by omega
          rw [List.drop_of_length_le (by rw [HL.out]; omega)] at q
          go_wp2_with fail
          refine (puts_any wr).mono ?_
          rintro e w8 ⟨rfl, b8⟩
          have hb8 := hbw2.trans (b8.mono hbw2.size)
          have q8 := q.below b8
          go_wp2_with fail
          refine (reads_any w8).mono ?_
          rintro e w9 ⟨rfl, b9⟩
          have hb9 := hb8.trans (b9.mono hb8.size)
          have q9 := q8.below b9
          go_wp2_with fail
          refine (left_any g _ w9 q9).mono ?_
          rintro e w10 ⟨rfl, rfl⟩
          go_wp2
          go_ret
          exact ⟨rfl, hb9⟩
end Go.Proofs.Ytllbebbmnjojgaa

/-
  The walks of the laws BitsParts and BitsRun: each says true, whatever came in, and nothing that was there is written over.
-/
import Derived.Test.YtjfcgjmiianmkaaDoorBitsLawB
namespace Go.Proofs.YtjfcgjmiianmkaaDoor
open Go.RowKit

/-- So many are on below the place i, in two counts. -/
def PartsRel (l : List Bool) (x y v : Value) : Prop := ∃ lo hi i : Nat, lo + hi = cnt (isOn l) i ∧ i ≤ l.length ∧ x = .int .i64 (lo : Int) ∧ y = .int .i64 (hi : Int) ∧ v = .int .i64 (i : Int)

set_option maxRecDepth 100000 in
set_option maxHeartbeats 4000000 in
theorem bitsParts_walk (n : Int) (A : Option Addr) (k c : Nat) (b : List UInt8) (a : Int) (w : World) (hT : Tab w) (hb : Rd w A k b) :
    Calls Tryd.prog 9 #[.int .i64 n, .slice A k c, .int .i64 a] w (Holds w) := by
  cases hrd : readB n b with
  | false =>
    have R := read_no n A k c b w hb hrd
    clear hrd
    go_enter Tryd.func9, Tryd.ntmps9
    go_wp2_with fail
    refine R.mono ?_
    rintro e w1 ⟨rfl, b1⟩
    go_wp2_with fail
    refine (awake_any w1 (hT.below b1)).mono ?_
    rintro e w2 ⟨rfl, b2⟩
    go_wp2
    go_ret
    exact ⟨rfl, b1.trans (b2.mono b1.size)⟩
  | true =>
    obtain ⟨z, rfl⟩ : ∃ z : Nat, n = (z : Int) := ⟨n.toNat, by have := (readB_iff.1 hrd).1; omega⟩
    have R := read_yes z A k c b w hb hrd
    clear hrd
    go_enter Tryd.func9, Tryd.ntmps9
    go_wp2_with fail
    refine R.mono ?_
    rintro e w1 ⟨g, h, rfl, m1, hg, hh, b1⟩
    obtain ⟨l, hl⟩ : ∃ l, l = bitsOf z b := ⟨_, rfl⟩
    rw [← hl] at m1
    clear hl R
    have hle := m1.le
    have hT1 := hT.below b1
    have N := len_any g h l w1 m1
    obtain ⟨q, hq⟩ : ∃ q, q = l.length := ⟨_, rfl⟩
    rw [← hq] at N hle
    have Hq := Lib.hid hq
    clear hq
    go_wp2
    go_loop [9, 10, 11] (PartsRel l) (fun _ _ v => q - (intOf v).toNat)
    case atStart => exact ⟨0, 0, 0, rfl, Nat.zero_le _, rfl, rfl, rfl⟩
    case round =>
      obtain ⟨lo, hi, i, hsum, hi2, rfl, rfl, rfl⟩ := hrel
      rw [← Hq.out] at hi2
      have hcl := cnt_le (isOn l) i
      have hlo : lo ≤ i := by omega
      have hhi : hi ≤ i := by omega
      by_cases hlt : i < q
      · have G := get_any g h l (i : Int) w1 m1
        have e1 : getE l (i : Int) = 0 := by unfold getE; rw [if_pos (by rw [← Hq.out]; omega)]
        have e2 : getB l (i : Int) = isOn l i := by unfold getB; rw [decide_eq_true (by rw [← Hq.out]; omega), Int.toNat_natCast]; rfl
        rw [e1, e2] at G
        have hs : cnt (isOn l) (i + 1) = cnt (isOn l) i + (isOn l i).toNat := rfl
        obtain ⟨x, hx⟩ : ∃ x, x = isOn l i := ⟨_, rfl⟩
        rw [← hx] at G hs
        have Hs := Lib.hid hs
        have Hsum := Lib.hid hsum
        clear hx hs hsum e1 e2 hcl
        cases x
        · go_wp2_with (first | (go_at_call 19; refine N.mono ?_; rintro e w2 ⟨rfl, rfl⟩) | (go_at_call 15; refine G.mono ?_; rintro e w2 ⟨rfl, rfl⟩))
          refine ⟨⟨lo, hi, i + 1, ?_, by rw [← Hq.out]; omega, rfl, rfl, by go_num⟩, by simp [intOf]; omega⟩
          rw [Hs.out, Hsum.out]
          rfl
        · by_cases hia : (i : Int) < a
          · have t1 : decide (a ≤ (i : Int)) = false := by simp; omega
            go_wp2_with (first | (go_at_call 19; refine N.mono ?_; rintro e w2 ⟨rfl, rfl⟩) | (go_at_call 15; refine G.mono ?_; rintro e w2 ⟨rfl, rfl⟩))
            refine ⟨⟨lo + 1, hi, i + 1, ?_, by rw [← Hq.out]; omega, by go_num, rfl, by go_num⟩, by simp [intOf]; omega⟩
            have h1 := Hs.out
            have h2 := Hsum.out
            simp at h1
            omega
          · have t1 : decide ((i : Int) < a) = false := by simp; omega
            have t2 : a ≤ (i : Int) := by omega
            go_wp2_with (first | (go_at_call 19; refine N.mono ?_; rintro e w2 ⟨rfl, rfl⟩) | (go_at_call 15; refine G.mono ?_; rintro e w2 ⟨rfl, rfl⟩))
            refine ⟨⟨lo, hi + 1, i + 1, ?_, by rw [← Hq.out]; omega, rfl, by go_num, by go_num⟩, by simp [intOf]; omega⟩
            have h1 := Hs.out
            have h2 := Hsum.out
            simp at h1
            omega
      · obtain rfl : i = q := by omega
        have hc : countL l = lo + hi := by unfold countL; rw [← Hq.out, hsum]
        have HC := Lib.hid hc
        clear hsum hc hcl
        go_wp2_with (go_at_call 19; refine N.mono ?_; rintro e w2 ⟨rfl, rfl⟩)
        refine (awake_any w1 hT1).mono ?_
        rintro e w2 ⟨rfl, b2⟩
        have C := count_any g h l w2 (m1.below b2)
        rw [HC.out, show ((lo + hi : Nat) : Int) = (lo : Int) + (hi : Int) by omega] at C
        go_wp2_with fail
        refine C.mono ?_
        rintro e w3 ⟨rfl, rfl⟩
        go_wp2
        go_ret
        exact ⟨rfl, b1.trans (b2.mono b1.size)⟩
end Go.Proofs.YtjfcgjmiianmkaaDoor

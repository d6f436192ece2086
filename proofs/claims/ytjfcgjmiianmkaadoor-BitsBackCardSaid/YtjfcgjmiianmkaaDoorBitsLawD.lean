/-
  The walk of the law BitsRun: it says true, whatever came in, and nothing that was there is written over.
-/
import Derived.Test.YtjfcgjmiianmkaaDoorBitsLawC
namespace Go.Proofs.YtjfcgjmiianmkaaDoor
open Go.RowKit

/-- What the search says: there is none, or the first one. -/
theorem runL_says (l : List Bool) (a n : Int) (on : Bool) : (runL l a n on = -1 ∧ (1 ≤ n → ∀ j : Nat, a ≤ (j : Int) → runAt l j n.toNat on = false)) ∨
    ∃ i : Nat, runL l a n on = (i : Int) ∧ 1 ≤ n ∧ a ≤ (i : Int) ∧ runAt l i n.toNat on = true ∧ ∀ j : Nat, j < i → a ≤ (j : Int) → runAt l j n.toNat on = false := by
  by_cases hn : n < 1
  · left
    exact ⟨by unfold runL; rw [if_pos hn], fun h => by omega⟩
  · cases h : (List.range l.length).find? (fun i : Nat => decide (a ≤ (i : Int)) && runAt l i n.toNat on) with
    | none =>
      left
      rw [List.find?_range_eq_none] at h
      have no : ∀ i : Nat, i < l.length → a ≤ (i : Int) → runAt l i n.toNat on = false := fun i hi ha => by
        have := h i hi
        simpa [ha] using this
      refine ⟨runL_none no, fun _ j ha => ?_⟩
      rcases Nat.lt_or_ge j l.length with h1 | h1
      · exact no j h1 ha
      · exact runAt_no fun hh => by omega
    | some i =>
      right
      rw [List.find?_range_eq_some] at h
      obtain ⟨h1, h2, h3⟩ := h
      simp at h1 h2
      have no : ∀ j : Nat, j < i → a ≤ (j : Int) → runAt l j n.toNat on = false := fun j hj ha => by
        have := h3 j hj
        simpa [ha] using this
      exact ⟨i, runL_some hn h2 h1.1 h1.2 no, by omega, h1.1, h1.2, no⟩

/-- So many of the places just below i are so, none of them below a. -/
def GotRel (l : List Bool) (a n : Nat) (on : Bool) (x y : Value) : Prop := ∃ got i : Nat, x = .int .i64 (got : Int) ∧ y = .int .i64 (i : Int) ∧ got < n ∧ a + got ≤ i ∧ ∀ q, q < got → isOn l (i - got + q) = on
theorem got_step {l : List Bool} {a n e got i : Nat} {on : Bool} (hc : ∀ j, a ≤ j → j + n ≤ e → runAt l j n on = false) (he : e ≤ l.length) (hi : i < e) (hag : a + got ≤ i) (hall : ∀ q, q < got → isOn l (i - got + q) = on) (hx : isOn l i = on) (hg : got < n) :
    got + 1 < n ∧ ∀ q, q < got + 1 → isOn l (i + 1 - (got + 1) + q) = on := by
  have h2 : ∀ q, q < got + 1 → isOn l (i + 1 - (got + 1) + q) = on := fun q hq => by
    rw [show i + 1 - (got + 1) + q = i - got + q by omega]
    rcases Nat.lt_or_ge q got with h | h
    · exact hall q h
    · rw [show i - got + q = i by omega]; exact hx
  refine ⟨?_, h2⟩
  rcases Nat.lt_or_ge (got + 1) n with h | h
  · exact h
  · have hn : n = got + 1 := by omega
    have h3 := hc (i + 1 - (got + 1)) (by omega) (by omega)
    rw [runAt_iff.2 ⟨by omega, fun k hk => h2 k (by omega)⟩] at h3
    cases h3

set_option maxRecDepth 100000 in
set_option maxHeartbeats 4000000 in
theorem bitsRun_walk (n : Int) (A : Option Addr) (k c : Nat) (b : List UInt8) (fr many : Int) (on : Bool) (w : World) (hT : Tab w) (hb : Rd w A k b) :
    Calls Tryd.prog 6 #[.int .i64 n, .slice A k c, .int .i64 fr, .int .i64 many, .bool on] w (Holds w) := by
  by_cases hk : 600 < k
  · go_enter Tryd.func6, Tryd.ntmps6
    go_wp2
    go_ret
    exact ⟨rfl, Below.refl _ _⟩
  by_cases hm : 5000 < many
  · have t0 : decide (600 < (k : Int)) = false := by simp; omega
    go_enter Tryd.func6, Tryd.ntmps6
    go_wp2
    go_ret
    exact ⟨rfl, Below.refl _ _⟩
  have t0 : decide (600 < (k : Int)) = false := by simp; omega
  have t1 : decide (5000 < many) = false := by simp; omega
  cases hrd : readB n b with
  | false =>
    have R := read_no n A k c b w hb hrd
    clear hrd
    go_enter Tryd.func6, Tryd.ntmps6
    go_wp2_with fail
    refine R.mono ?_
    rintro e w1 ⟨rfl, b1⟩
    go_wp2_with fail
    refine (awake_any w1 (hT.below b1)).mono ?_
    rintro e w2 ⟨rfl, b2⟩
    go_wp2
    go_ret
    exact ⟨rfl, b1.trans (b2.mono b1.size)⟩
  | true =>
    obtain ⟨z, rfl⟩ : ∃ z : Nat, n = (z : Int) := ⟨n.toNat, by have := (readB_iff.1 hrd).1; omega⟩
    have R := read_yes z A k c b w hb hrd
    clear hrd
    go_enter Tryd.func6, Tryd.ntmps6
    go_wp2_with fail
    refine R.mono ?_
    rintro e w1 ⟨g, h, rfl, m1, hg, hh, b1⟩
    obtain ⟨l, hl⟩ : ∃ l, l = bitsOf z b := ⟨_, rfl⟩
    rw [← hl] at m1
    clear hl R t0 t1
    have hle := m1.le
    have hT1 := hT.below b1
    have N := len_any g h l w1 m1
    obtain ⟨len, hlen⟩ : ∃ q, q = l.length := ⟨_, rfl⟩
    rw [← hlen] at N hle
    have Hlen := Lib.hid hlen
    clear hlen
    have R := run_any g h l fr many on w1 m1 hT1
    obtain ⟨a, ha⟩ : ∃ a : Nat, (if fr < 0 then (0 : Int) else fr) = (a : Int) := ⟨fr.toNat, by split <;> omega⟩
    have hfa : ∀ j : Nat, a ≤ j → fr ≤ (j : Int) := fun j hj => by split at ha <;> omega
    rcases runL_says l fr many on with ⟨hr, hno⟩ | ⟨p, hr, h1, h2, h3, hno⟩
    · rw [hr] at R
      clear hr
      by_cases h1 : 1 ≤ many
      · obtain ⟨m, rfl⟩ : ∃ m : Nat, many = (m : Int) := ⟨many.toNat, by omega⟩
        have HC : Hid (∀ j, a ≤ j → j + m ≤ len → runAt l j m on = false) := Lib.hid fun j hj _ => by
          have := hno h1 j (hfa j hj)
          rwa [Int.toNat_natCast] at this
        clear hno hfa
        go_wp2_with (first | (go_at_call 16; refine R.mono ?_; rintro e w2 ⟨rfl, rfl⟩) | (go_at_call 19; refine N.mono ?_; rintro e w2 ⟨rfl, rfl⟩))
        clear R N ha
        go_loop [18, 19] (GotRel l a m on) (fun _ v => len - (intOf v).toNat)
        case atStart => exact ⟨0, a, rfl, rfl, by omega, by omega, fun q hq => absurd hq (by omega)⟩
        case round =>
          obtain ⟨got, i, rfl, rfl, hgm, hag, hall⟩ := hrel
          by_cases hlt : i < len
          · have G := get_any g h l (i : Int) w1 m1
            have e1 : getE l (i : Int) = 0 := by unfold getE; rw [if_pos (by rw [← Hlen.out]; omega)]
            have e2 : getB l (i : Int) = isOn l i := by unfold getB; rw [decide_eq_true (by rw [← Hlen.out]; omega), Int.toNat_natCast]; rfl
            rw [e1, e2] at G
            by_cases hx : isOn l i = on
            · obtain ⟨hg1, hall2⟩ := got_step HC.out (by rw [← Hlen.out]; omega) hlt hag hall hx hgm
              rw [hx] at G
              have t2 : (on == on) = true := by simp
              have t3 : decide ((m : Int) ≤ (got : Int) + 1) = false := by simp; omega
              have Hall := Lib.hid hall2
              clear hall hall2 hx e1 e2
              go_wp2_with (go_at_call 15; refine G.mono ?_; rintro e w2 ⟨rfl, rfl⟩)
              exact ⟨⟨got + 1, i + 1, by go_num, by go_num, hg1, by omega, Hall.out⟩, by simp [intOf]; omega⟩
            · obtain ⟨x, hxe⟩ : ∃ x, x = isOn l i := ⟨_, rfl⟩
              rw [← hxe] at G hx
              have t2 : (x == on) = false := by simpa using hx
              have t3 : decide ((m : Int) ≤ 0) = false := by simp; omega
              clear hall hx hxe e1 e2
              go_wp2_with (go_at_call 15; refine G.mono ?_; rintro e w2 ⟨rfl, rfl⟩)
              exact ⟨⟨0, i + 1, rfl, by go_num, by omega, by omega, fun q hq => absurd hq (by omega)⟩, by simp [intOf]; omega⟩
          · have t2 : decide ((i : Int) < (len : Int)) = false := by simp; omega
            clear hall
            go_wp2_with fail
            refine (awake_any w1 hT1).mono ?_
            rintro e w2 ⟨rfl, b2⟩
            go_wp2
            go_ret
            exact ⟨rfl, b1.trans (b2.mono b1.size)⟩
      · clear hno hfa
        have t1 : decide (1 ≤ many) = false := by simp; omega
        go_wp2_with (first | (go_at_call 16; refine R.mono ?_; rintro e w2 ⟨rfl, rfl⟩) | (go_at_call 19; refine N.mono ?_; rintro e w2 ⟨rfl, rfl⟩))
        clear R N ha
        by_cases hal : a < len
        · go_loop [18, 19] (fun x v => x = .int .i64 0 ∧ v = .int .i64 (a : Int)) (fun _ _ => 0)
          case atStart => exact ⟨rfl, rfl⟩
          case round =>
            obtain ⟨rfl, rfl⟩ := hrel
            go_wp2_with fail
            refine (awake_any w1 hT1).mono ?_
            rintro e w2 ⟨rfl, b2⟩
            go_wp2
            go_ret
            exact ⟨rfl, b1.trans (b2.mono b1.size)⟩
        · have t2 : decide ((a : Int) < (len : Int)) = false := by simp; omega
          go_loop [18, 19] (fun x v => x = .int .i64 0 ∧ v = .int .i64 (a : Int)) (fun _ _ => 0)
          case atStart => exact ⟨rfl, rfl⟩
          case round =>
            obtain ⟨rfl, rfl⟩ := hrel
            go_wp2_with fail
            refine (awake_any w1 hT1).mono ?_
            rintro e w2 ⟨rfl, b2⟩
            go_wp2
            go_ret
            exact ⟨rfl, b1.trans (b2.mono b1.size)⟩
    · rw [hr] at R
      clear hr
      obtain ⟨m, rfl⟩ : ∃ m : Nat, many = (m : Int) := ⟨many.toNat, by omega⟩
      rw [Int.toNat_natCast] at h3 hno
      obtain ⟨h4, h5⟩ := runAt_iff.1 h3
      rw [← Hlen.out] at h4
      obtain ⟨E, hE⟩ : ∃ E, E = p + m - 1 := ⟨_, rfl⟩
      have HC : Hid (∀ j, a ≤ j → j + m ≤ E → runAt l j m on = false) := Lib.hid fun j hj hjE => hno j (by omega) (hfa j hj)
      have H5 := Lib.hid h5
      have t2 : decide ((p : Int) < fr) = false := by simp; omega
      have t3 : decide ((m : Int) < 1) = false := by simp; omega
      have t4 : decide ((len : Int) - (p : Int) < (m : Int)) = false := by simp; omega
      have hp0 : (0 : Int) ≤ (p : Int) := by omega
      have hm1 : 1 ≤ m := by omega
      have hEi : (p : Int) + (m : Int) - 1 = (E : Int) := by omega
      have HE := Lib.hid hEi
      have hE2 : E ≤ len := by omega
      have hm5 : m ≤ 5000 := by omega
      clear hno hfa h3 h5 hE hm h1 h2
      go_wp2_with (first | (go_at_call 16; refine R.mono ?_; rintro e w2 ⟨rfl, rfl⟩) | (go_at_call 19; refine N.mono ?_; rintro e w2 ⟨rfl, rfl⟩))
      clear R N t2 t3 t4 hEi
      go_loop [15] (fun v => ∃ j : Nat, j ≤ m ∧ v = .int .i64 (j : Int)) (fun v => m - (intOf v).toNat)
      case atStart => exact ⟨0, Nat.zero_le _, rfl⟩
      case round =>
        obtain ⟨j, hj, rfl⟩ := hrel
        by_cases hjm : j < m
        · have G := get_any g h l ((p : Int) + (j : Int)) w1 m1
          have e1 : getE l ((p : Int) + (j : Int)) = 0 := by unfold getE; rw [if_pos (by rw [← Hlen.out]; omega)]
          have e2 : getB l ((p : Int) + (j : Int)) = on := by
            unfold getB
            rw [decide_eq_true (by rw [← Hlen.out]; omega), show ((p : Int) + (j : Int)).toNat = p + j by omega, H5.out j hjm]
            rfl
          rw [e1, e2] at G
          have t5 : (on != on) = false := by simp
          clear e1 e2
          go_wp2_with (go_at_call 15; refine G.mono ?_; rintro e w2 ⟨rfl, rfl⟩)
          exact ⟨⟨j + 1, by omega, by go_num⟩, by simp [intOf]; omega⟩
        · obtain rfl : j = m := by omega
          have hEi := HE.out
          go_wp2_with fail
          clear ha hEi
          go_loop [18, 19] (GotRel l a j on) (fun _ v => E - (intOf v).toNat)
          case atStart => exact ⟨0, a, rfl, rfl, by omega, by omega, fun q hq => absurd hq (by omega)⟩
          case round =>
            obtain ⟨got, i, rfl, rfl, hgm, hag, hall⟩ := hrel
            by_cases hlt : i < E
            · have G := get_any g h l (i : Int) w1 m1
              have e1 : getE l (i : Int) = 0 := by unfold getE; rw [if_pos (by rw [← Hlen.out]; omega)]
              have e2 : getB l (i : Int) = isOn l i := by unfold getB; rw [decide_eq_true (by rw [← Hlen.out]; omega), Int.toNat_natCast]; rfl
              rw [e1, e2] at G
              by_cases hx : isOn l i = on
              · obtain ⟨hg1, hall2⟩ := got_step HC.out (by rw [← Hlen.out]; omega) hlt hag hall hx hgm
                rw [hx] at G
                have t2 : (on == on) = true := by simp
                have t3 : decide ((j : Int) ≤ (got : Int) + 1) = false := by simp; omega
                have Hall := Lib.hid hall2
                clear hall hall2 hx e1 e2
                go_wp2_with (go_at_call 15; refine G.mono ?_; rintro e w2 ⟨rfl, rfl⟩)
                exact ⟨⟨got + 1, i + 1, by go_num, by go_num, hg1, by omega, Hall.out⟩, by simp [intOf]; omega⟩
              · obtain ⟨x, hxe⟩ : ∃ x, x = isOn l i := ⟨_, rfl⟩
                rw [← hxe] at G hx
                have t2 : (x == on) = false := by simpa using hx
                have t3 : decide ((j : Int) ≤ 0) = false := by simp; omega
                clear hall hx hxe e1 e2
                go_wp2_with (go_at_call 15; refine G.mono ?_; rintro e w2 ⟨rfl, rfl⟩)
                exact ⟨⟨0, i + 1, rfl, by go_num, by omega, by omega, fun q hq => absurd hq (by omega)⟩, by simp [intOf]; omega⟩
            · have t2 : decide ((i : Int) < (E : Int)) = false := by simp; omega
              clear hall
              go_wp2_with fail
              refine (awake_any w1 hT1).mono ?_
              rintro e w2 ⟨rfl, b2⟩
              go_wp2
              go_ret
              exact ⟨rfl, b1.trans (b2.mono b1.size)⟩
end Go.Proofs.YtjfcgjmiianmkaaDoor

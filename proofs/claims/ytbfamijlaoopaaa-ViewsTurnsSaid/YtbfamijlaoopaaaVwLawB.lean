/-
  ViewsMeet: the walk of the law.
-/
import Derived.Test.YtbfamijlaoopaaaVwLawA
import Derived.Lib.QuietBelow
namespace Go.Proofs.Ytbfamijlaoopaaa
open Go.RowKit
def MtRel (w : World) (n : Int) (l1 l2 : List Int) (i : Value) (wr : World) : Prop := ∃ k : Nat, k ≤ l1.length ∧ i = .int .i64 (k : Int) ∧ (∀ x ∈ l1.take k, x ∈ l2 → 1 ≤ x → n < x) ∧ Below w.heap.size w wr
def MtIn (w : World) (n y : Int) (l2 : List Int) (i : Value) (wr : World) : Prop := ∃ k : Nat, k ≤ l2.length ∧ i = .int .i64 (k : Int) ∧ (y ∈ l2.take k → 1 ≤ y → n < y) ∧ Below w.heap.size w wr
theorem meet_no {n y : Int} {l2 : List Int} {k : Nat} {z : Int} (hz : l2[k]? = some z) (h : y ∈ l2.take k → 1 ≤ y → n < y) (hn : y = z → 1 ≤ y → n < y) : y ∈ l2.take (k + 1) → 1 ≤ y → n < y := by
  intro hm
  rcases (take_mem hz).1 hm with h1 | h1
  · exact h h1
  · exact hn h1
set_option maxHeartbeats 4000000 in
theorem viewsMeet_walk (nodes : Int) (A : Option Addr) (n1 c1 : Nat) (l1 : List Int) (B : Option Addr) (n2 c2 : Nat) (l2 : List Int) (w : World) (h1 : RdN w A n1 l1) (h2 : RdN w B n2 l2) : Calls Try.prog 6 #[.int .i64 nodes, .slice A n1 c1, .slice B n2 c2] w (Holds w) := by
  have HA := Lib.hid asks_any
  by_cases g1 : 300 < n1
  · have g1i : (300 : Int) < (n1 : Int) := by omega
    clear h1 h2
    go_enter Try.func6, Try.ntmps6
    go_wp2_with (go_at_call 11; refine (HA.out _).mono ?_; rintro x W2 ⟨rfl, b2⟩; have HB2 := Lib.hid b2; clear b2)
    go_ret
    exact ⟨rfl, HB2.out⟩
  · have g1i : ¬ ((300 : Int) < (n1 : Int)) := by omega
    by_cases g2 : 300 < n2
    · have g2i : (300 : Int) < (n2 : Int) := by omega
      clear h1 h2
      go_enter Try.func6, Try.ntmps6
      go_wp2_with (go_at_call 11; refine (HA.out _).mono ?_; rintro x W2 ⟨rfl, b2⟩; have HB2 := Lib.hid b2; clear b2)
      go_ret
      exact ⟨rfl, HB2.out⟩
    · have g2i : ¬ ((300 : Int) < (n2 : Int)) := by omega
      have HE1 := Lib.hid (venough_any (c := c1) h1 (by omega) nodes)
      have HE2 := Lib.hid (fun W (b : Below w.heap.size w W) => venough_any (c := c2) (h2.below b) (by omega) nodes)
      have HR1 := Lib.hid (fun W (b : Below w.heap.size w W) => h1.below b)
      have HR2 := Lib.hid (fun W (b : Below w.heap.size w W) => h2.below b)
      have HL1 := Lib.hid h1.len
      have HL2 := Lib.hid h2.len
      clear h1 h2
      cases q1 : enough nodes l1
      · rw [q1] at HE1
        go_enter Try.func6, Try.ntmps6
        go_wp2_with (first | (go_at_call 18; with_reducible refine HE1.out.mono ?_; rintro x W1 ⟨rfl, b1⟩; have HB1 := Lib.hid b1; clear b1) | (go_at_call 11; refine (HA.out _).mono ?_; rintro x W2 ⟨rfl, b2⟩; have HB2 := Lib.hid b2; clear b2))
        go_ret
        exact ⟨rfl, HB1.out.trans (HB2.out.mono HB1.out.size)⟩
      · rw [q1] at HE1
        cases q2 : enough nodes l2
        · rw [q2] at HE2
          go_enter Try.func6, Try.ntmps6
          go_upto_region 2 with (first | (go_at_call 18; with_reducible refine HE1.out.mono ?_; rintro x W1 ⟨rfl, b1⟩; have HB1 := Lib.hid b1; clear b1) | (go_at_call 18; with_reducible refine (HE2.out _ HB1.out).mono ?_; rintro x W3 ⟨rfl, b3⟩; have HB3 := Lib.hid (HB1.out.trans (b3.mono HB1.out.size)); clear b3))
          go_wp2_with (go_at_call 11; refine (HA.out _).mono ?_; rintro x W2 ⟨rfl, b2⟩; have HB2 := Lib.hid b2; clear b2)
          go_ret
          exact ⟨rfl, HB3.out.trans (HB2.out.mono HB3.out.size)⟩
        · rw [q2] at HE2
          have HM := Lib.hid (enough_meet q1 q2)
          clear q1 q2
          go_enter Try.func6, Try.ntmps6
          go_upto_region 3 with (first | (go_at_call 18; with_reducible refine HE1.out.mono ?_; rintro x W1 ⟨rfl, b1⟩; have HB1 := Lib.hid b1; clear b1) | (go_at_call 18; with_reducible refine (HE2.out _ HB1.out).mono ?_; rintro x W3 ⟨rfl, b3⟩; have HB3 := Lib.hid (HB1.out.trans (b3.mono HB1.out.size)); clear b3))
          clear HE1 HE2
          go_wp2
          go_loopw [7] (MtRel w nodes l1 l2) (fun i _ => n1 - (Go.RowKit.intOf i).toNat)
          case atStart => exact ⟨0, Nat.zero_le _, rfl, by simp, HB3.out⟩
          case round =>
            obtain ⟨i, hi, rfl, hno, hb⟩ := hrel
            rw [HL1.out] at hi
            have Hno := Lib.hid hno
            have HB := Lib.hid hb
            clear hno hb
            by_cases hlt : i < n1
            · obtain ⟨b, off, y, rfl, -, hy, hc⟩ := (HR1.out wr HB.out).cell hlt
              have Hy := Lib.hid hy
              have hbl : b < w.heap.size := by
                obtain ⟨b', off', y', e, hb', -, -⟩ := (HR1.out w (Below.refl _ _)).cell hlt
                injection e with e
                injection e with e1 e2
                omega
              have Hbl := Lib.hid hbl
              have HC := Lib.hid (fun W (hb : Below w.heap.size w W) => (show W.cell? ⟨b, off + i, none⟩ = some (.int .i64 y) from by
                have c0 := (hb.cell (p := ⟨b, off + i, none⟩) hbl)
                have c3 := (HB.out.cell (p := ⟨b, off + i, none⟩) hbl)
                rw [c0, ← c3]
                exact hc))
              have hii : (i : Int) < (n1 : Int) := by omega
              clear hy hc hbl
              go_wp2
              go_loopw [8] (MtIn w nodes y l2) (fun k _ => n2 - (Go.RowKit.intOf k).toNat)
              case atStart => exact ⟨0, Nat.zero_le _, rfl, by simp, HB.out⟩
              case round =>
                obtain ⟨k, hk, rfl, hno2, hb2⟩ := hrel
                rw [HL2.out] at hk
                have HB2 := Lib.hid hb2
                by_cases hlt2 : k < n2
                · have hkk : (k : Int) < (n2 : Int) := by omega
                  have cy := HC.out wr HB2.out
                  obtain ⟨b', off', z, rfl, -, hz, cz⟩ := (HR2.out wr HB2.out).cell hlt2
                  have HNo := Lib.hid (fun hn => meet_no hz hno2 hn)
                  clear hno2 hb2 hz
                  by_cases e1 : y = z
                  · have t1 : (y == z) = true := by simp [e1]
                    have t2 : decide (y = z) = true := by simp [e1]
                    clear e1
                    by_cases e2 : 1 ≤ y
                    · have t3 : decide (1 ≤ y) = true := by simp [e2]
                      by_cases e3 : y ≤ nodes
                      · have t4 : decide (y ≤ nodes) = true := by simp [e3]
                        go_wp2
                        go_quiet (fail)
                        go_wp2_with (go_at_call 11; refine (HA.out _).mono ?_; rintro x W2 ⟨rfl, b2⟩; have HB4 := Lib.hid b2; clear b2)
                        go_ret
                        exact ⟨rfl, (below_drewN HB2.out _).trans (HB4.out.mono (below_drewN HB2.out _).size)⟩
                      · have t4 : decide (y ≤ nodes) = false := by simp; omega
                        have HN := Lib.hid (HNo.out fun _ _ => by omega)
                        go_wp2
                        go_quiet (fail)
                        go_wp2
                        go_roundw
                        case rel => exact ⟨k + 1, by have := HL2.out; omega, by go_num, HN.out, below_drewN HB2.out _⟩
                        case measure => simp [Go.RowKit.intOf]; omega
                    · have t3 : decide (1 ≤ y) = false := by simp; omega
                      have HN := Lib.hid (HNo.out fun _ h => absurd h e2)
                      go_wp2
                      go_quiet (fail)
                      go_wp2
                      go_roundw
                      case rel => exact ⟨k + 1, by have := HL2.out; omega, by go_num, HN.out, below_drewN HB2.out _⟩
                      case measure => simp [Go.RowKit.intOf]; omega
                  · have t1 : (y == z) = false := by simp [e1]
                    have t2 : decide (y = z) = false := by simp [e1]
                    have HN := Lib.hid (HNo.out fun h => absurd h e1)
                    clear e1
                    go_wp2
                    go_quiet (fail)
                    go_wp2
                    go_roundw
                    case rel => exact ⟨k + 1, by have := HL2.out; omega, by go_num, HN.out, below_drewN HB2.out _⟩
                    case measure => simp [Go.RowKit.intOf]; omega
                · obtain rfl : k = n2 := by omega
                  have hkk : ¬ ((k : Int) < (k : Int)) := by omega
                  have HNo2 := Lib.hid (show y ∈ l2 → 1 ≤ y → nodes < y by rwa [List.take_of_length_le (by rw [HL2.out]; omega)] at hno2)
                  clear hno2 hb2
                  go_wp2
                  go_roundw
                  case rel =>
                    refine ⟨i + 1, by have := HL1.out; omega, by go_num, fun x hx => ?_, HB2.out⟩
                    rcases (take_mem Hy.out).1 hx with h | h
                    · exact Hno.out x h
                    · rw [h]; exact HNo2.out
                  case measure => simp [Go.RowKit.intOf]; omega
            · obtain rfl : i = n1 := by omega
              exfalso
              obtain ⟨x, x1, x2, x3, x4⟩ := HM.out
              have := Hno.out x (by rw [List.take_of_length_le (by rw [HL1.out]; omega)]; exact x1) x2 x3
              omega
end Go.Proofs.Ytbfamijlaoopaaa

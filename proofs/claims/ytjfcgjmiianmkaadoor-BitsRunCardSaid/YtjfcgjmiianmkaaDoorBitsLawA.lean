/-
  The walks of the laws BitsNil and BitsPut: each says true, whatever came in, and nothing that was there is written over.
-/
import Derived.Test.YtjfcgjmiianmkaaDoorBitsV
namespace Go.Proofs.YtjfcgjmiianmkaaDoor
open Go.RowKit

/-- A call's struct as cells. -/
def opv (k a n : Int) (on : Bool) : List Value := [.int .i64 k, .int .i64 a, .int .i64 n, .bool on]

set_option maxRecDepth 100000 in
set_option maxHeartbeats 2000000 in
theorem bitsNil_walk (k a n : Int) (on : Bool) (w : World) (hT : Tab w) :
    Calls Tryd.prog 7 #[.agg #[.int .i64 k, .int .i64 a, .int .i64 n, .bool on]] w (Holds w) := by
  have wh : Whole (w.alloc (.cells #[.int .i64 k, .int .i64 a, .int .i64 n, .bool on] 31)) w.heap.size 31 (opv k a n on) := Whole.new w _ _
  have b0 : Below w.heap.size w (w.alloc (.cells #[.int .i64 k, .int .i64 a, .int .i64 n, .bool on] 31)) := (Below.refl _ _).alloc (Nat.le_refl _) _
  have hT0 := hT.below b0
  go_enter Tryd.func7, Tryd.ntmps7
  go_wp2_with fail
  refine (get_nil a _).mono ?_
  rintro e w1 ⟨rfl, rfl⟩
  go_wp2_with fail
  refine (awake_any _ hT0).mono ?_
  rintro e w1 ⟨rfl, b1⟩
  have wh1 := wh.below b1
  have c1 : w1.cell? ⟨w.heap.size, 1, none⟩ = some (.int .i64 a) := wh1.cell 1
  have c2 : w1.cell? ⟨w.heap.size, 2, none⟩ = some (.int .i64 n) := wh1.cell 2
  have c3 : w1.cell? ⟨w.heap.size, 3, none⟩ = some (.bool on) := wh1.cell 3
  have b2 := b0.trans (b1.mono b0.size)
  clear wh wh1
  go_wp2_with fail
  refine (len_nil w1).mono ?_
  rintro e w2 ⟨rfl, rfl⟩
  go_wp2_with fail
  refine (count_nil w1).mono ?_
  rintro e w2 ⟨rfl, rfl⟩
  go_wp2_with fail
  refine (run_nil a n on w1).mono ?_
  rintro e w2 ⟨rfl, rfl⟩
  go_wp2_with fail
  refine (bytes_nil w1).mono ?_
  rintro e w2 ⟨rfl, rfl⟩
  go_wp2_with fail
  refine (put_nil a n on w1).mono ?_
  rintro e w2 ⟨rfl, rfl⟩
  go_wp2
  go_ret
  exact ⟨rfl, b2⟩

/-- A call's struct in a block of its own. -/
def Box (w : World) (p : Nat) (k a n : Int) (on : Bool) : Prop := Whole w p 31 (opv k a n on)
section
variable {w w' : World} {p : Nat} {k a n : Int} {on : Bool}
theorem Box.c0 (h : Box w p k a n on) : w.cell? ⟨p, 0, none⟩ = some (.int .i64 k) := Whole.cell h 0
theorem Box.c1 (h : Box w p k a n on) : w.cell? ⟨p, 1, none⟩ = some (.int .i64 a) := Whole.cell h 1
theorem Box.c2 (h : Box w p k a n on) : w.cell? ⟨p, 2, none⟩ = some (.int .i64 n) := Whole.cell h 2
theorem Box.c3 (h : Box w p k a n on) : w.cell? ⟨p, 3, none⟩ = some (.bool on) := Whole.cell h 3
theorem Box.below (h : Box w p k a n on) (hb : Below w.heap.size w w') : Box w' p k a n on := Whole.below h hb
theorem Box.grown {r : Nat} (h : Box w p k a n on) (hg : w.grownBy w' (some r)) (hr : p ≠ r) : Box w' p k a n on := Whole.grown h hg hr
theorem Box.new (w : World) : Box (w.alloc (.cells #[.int .i64 k, .int .i64 a, .int .i64 n, .bool on] 31)) w.heap.size k a n on := Whole.new w _ _
end

/-- What is put is there, all else stays. -/
theorem put_in {l : List Bool} {a n i : Int} (on : Bool) (hm : mayPut l a n = true) (h1 : a ≤ i) (h2 : i - a < n) : getE l i = 0 ∧ getB (putV l a n on) i = on := by
  have h := of_decide_eq_true hm
  refine ⟨by unfold getE; rw [if_pos (by omega)], ?_⟩
  unfold getB
  rw [putV_length, decide_eq_true (by omega), Bool.true_and]
  unfold putV
  rw [hm, if_pos rfl, putL_isOn _ _ _ _ (by omega), if_pos (by omega)]
theorem put_out {l : List Bool} {a n i : Int} (on : Bool) (h : mayPut l a n = true → ¬ (a ≤ i ∧ i - a < n)) : getB (putV l a n on) i = getB l i := by
  unfold getB
  rw [putV_length]
  by_cases hi : 0 ≤ i ∧ i < (l.length : Int)
  · rw [decide_eq_true hi, Bool.true_and, Bool.true_and]
    unfold putV
    by_cases hm : mayPut l a n = true
    · have h1 := h hm
      have h2 := of_decide_eq_true hm
      rw [if_pos hm, putL_isOn _ _ _ _ (by omega), if_neg (by omega)]
    · rw [if_neg hm]
  · rw [decide_eq_false hi, Bool.false_and, Bool.false_and]
theorem getE_putV (l : List Bool) (a n i : Int) (on : Bool) : getE (putV l a n on) i = getE l i := by
  unfold getE
  rw [putV_length]

set_option maxRecDepth 100000 in
set_option maxHeartbeats 4000000 in
theorem bitsPut_walk (n : Int) (ak aa an : Int) (ao : Bool) (bk ba bn : Int) (bo : Bool) (ck ca cn : Int) (co : Bool) (i : Int) (w : World) (hT : Tab w)
    (ha : aa ≤ 9223372036854775807) (hb : ba ≤ 9223372036854775807) (hc : ca ≤ 9223372036854775807) (hi : i ≤ 9223372036854775807) :
    Calls Tryd.prog 5 #[.int .i64 n, .agg #[.int .i64 ak, .int .i64 aa, .int .i64 an, .bool ao], .agg #[.int .i64 bk, .int .i64 ba, .int .i64 bn, .bool bo], .agg #[.int .i64 ck, .int .i64 ca, .int .i64 cn, .bool co], .int .i64 i] w (Holds w) := by
  obtain ⟨w0, hw0⟩ : ∃ w0, w0 = (((w.alloc (.cells #[.int .i64 ak, .int .i64 aa, .int .i64 an, .bool ao] 31)).alloc (.cells #[.int .i64 bk, .int .i64 ba, .int .i64 bn, .bool bo] 31)).alloc (.cells #[.int .i64 ck, .int .i64 ca, .int .i64 cn, .bool co] 31)) := ⟨_, rfl⟩
  have b0 : Below w.heap.size w w0 := by rw [hw0]; exact (((Below.refl _ _).alloc (Nat.le_refl _) _).alloc (by simp) _).alloc (by simp; omega) _
  have xa : Box w0 w.heap.size ak aa an ao := by
    rw [hw0]
    exact ((Box.new w).below ((Below.refl _ _).alloc (Nat.le_refl _) _)).below ((Below.refl _ _).alloc (Nat.le_refl _) _)
  have xb : Box w0 (w.heap.size + 1) bk ba bn bo := by
    rw [hw0]
    have := (Box.new (k := bk) (a := ba) (n := bn) (on := bo) (w.alloc (.cells #[.int .i64 ak, .int .i64 aa, .int .i64 an, .bool ao] 31))).below ((Below.refl _ _).alloc (Nat.le_refl _) (.cells #[.int .i64 ck, .int .i64 ca, .int .i64 cn, .bool co] 31))
    simpa using this
  have xc : Box w0 (w.heap.size + 1 + 1) ck ca cn co := by
    rw [hw0]
    have := Box.new (k := ck) (a := ca) (n := cn) (on := co) ((w.alloc (.cells #[.int .i64 ak, .int .i64 aa, .int .i64 an, .bool ao] 31)).alloc (.cells #[.int .i64 bk, .int .i64 ba, .int .i64 bn, .bool bo] 31))
    simpa using this
  have hs0 : w.heap.size + 1 + 1 < w0.heap.size := Whole.lt xc
  have hT0 := hT.below b0
  by_cases hn : n < 0 ∨ 4096 < n
  · have N := new_no n w0 hn
    clear hn
    go_enter Tryd.func5, Tryd.ntmps5
    go_wp2_with fail
    rw [← hw0]
    clear hw0
    refine N.mono ?_
    rintro e w1 ⟨rfl, rfl⟩
    go_wp2_with fail
    refine (awake_any w0 hT0).mono ?_
    rintro e w1 ⟨rfl, b1⟩
    go_wp2
    go_ret
    exact ⟨rfl, b0.trans (b1.mono b0.size)⟩
  · obtain ⟨z, rfl⟩ : ∃ z : Nat, n = (z : Int) := ⟨n.toNat, by omega⟩
    have hz : z ≤ 4096 := by omega
    clear hn
    go_enter Tryd.func5, Tryd.ntmps5
    go_wp2_with fail
    rw [← hw0]
    clear hw0
    refine (new_yes z w0 hz).mono ?_
    rintro e w1 ⟨g, h, rfl, m1, hg, hh, b1⟩
    have hT1 := hT0.below b1
    have hlt0 := hT0.lt
    have xa1 := xa.below b1
    have xb1 := xb.below b1
    have xc1 := xc.below b1
    clear xa xb xc
    have ca1 := xa1.c1
    have ca2 := xa1.c2
    have ca3 := xa1.c3
    go_wp2_with fail
    refine (put_any g h _ aa an ao w1 m1 ha).mono ?_
    rintro e w2 ⟨rfl, m2, g2⟩
    have xb2 := xb1.grown g2 (by omega)
    have xc2 := xc1.grown g2 (by omega)
    have hT2 := hT1.beside g2 (by omega)
    clear ca1 ca2 ca3 xa1 xb1 xc1 m1
    have cb1 := xb2.c1
    have cb2 := xb2.c2
    have cb3 := xb2.c3
    go_wp2_with fail
    refine (put_any g h _ ba bn bo w2 m2 hb).mono ?_
    rintro e w3 ⟨rfl, m3, g3⟩
    have xc3 := xc2.grown g3 (by omega)
    have hT3 := hT2.beside g3 (by omega)
    clear cb1 cb2 cb3 xb2 xc2 m2
    obtain ⟨l, hl⟩ : ∃ l, l = putV (putV (List.replicate z false) aa an ao) ba bn bo := ⟨_, rfl⟩
    rw [← hl] at m3
    clear hl
    go_wp2_with fail
    refine (get_any g h l i w3 m3).mono ?_
    rintro e w4 ⟨rfl, rfl⟩
    have cc1 := xc3.c1
    have cc2 := xc3.c2
    have cc3 := xc3.c3
    go_wp2_with fail
    refine (put_any g h l ca cn co w3 m3 hc).mono ?_
    rintro e w4 ⟨rfl, m4, g4⟩
    have xc4 := xc3.grown g4 (by omega)
    have hT4 := hT3.beside g4 (by omega)
    have b04 : Below w.heap.size w w4 := below_grown (below_grown (below_grown (b0.trans (b1.mono b0.size)) g2 (Nat.le_trans b0.size b1.size) (by omega)) g3 (Nat.le_trans b0.size (Nat.le_trans b1.size g2.size)) (by omega)) g4 (Nat.le_trans b0.size (Nat.le_trans b1.size (Nat.le_trans g2.size g3.size))) (by omega)
    clear cc1 cc2 cc3 xc3
    have cc1 := xc4.c1
    have cc2 := xc4.c2
    have cc3 := xc4.c3
    have G := get_any g h (putV l ca cn co) i w4 m4
    rw [getE_putV] at G
    have hsz : w.heap.size + 1 + 1 < w4.heap.size := Whole.lt xc4
    by_cases hin : mayPut l ca cn = true ∧ ca ≤ i ∧ i - ca < cn
    · obtain ⟨h1, h2, h3⟩ := hin
      obtain ⟨e1, e2⟩ := put_in co h1 h2 h3
      rw [e2, e1] at G
      have e3 : putE l ca cn = 0 := by unfold putE; rw [if_pos h1]
      have h4 := of_decide_eq_true h1
      have h5 : 0 ≤ ca := h4.1
      clear h4 h1 e2
      go_wp2_with fail
      refine G.mono ?_
      rintro e w5 ⟨rfl, rfl⟩
      go_wp2_with fail
      refine (awake_any w4 hT4).mono ?_
      rintro e w5 ⟨rfl, b5⟩
      have xc5 := xc4.below b5
      have cd3 := xc5.c3
      go_wp2
      go_ret
      exact ⟨rfl, b04.trans (b5.mono b04.size)⟩
    · rw [put_out co (fun h1 h2 => hin ⟨h1, h2.1, h2.2⟩)] at G
      obtain ⟨F, hF⟩ : ∃ F, F = getE l i := ⟨_, rfl⟩
      obtain ⟨x, hx⟩ : ∃ x, x = getB l i := ⟨_, rfl⟩
      rw [← hF, ← hx] at G ⊢
      clear hF hx
      have hcase : mayPut l ca cn = false ∨ (mayPut l ca cn = true ∧ ¬ ca ≤ i) ∨ (mayPut l ca cn = true ∧ ca ≤ i ∧ ¬ i - ca < cn) := by
        cases hm : mayPut l ca cn with
        | false => exact .inl rfl
        | true =>
          by_cases h1 : ca ≤ i
          · exact .inr (.inr ⟨rfl, h1, fun h2 => hin ⟨hm, h1, h2⟩⟩)
          · exact .inr (.inl ⟨rfl, h1⟩)
      have tF : ((F : Int) != F) = false := by simp
      clear hin
      rcases hcase with h1 | ⟨h1, h2⟩ | ⟨h1, h2, h3⟩
      · have e3 : putE l ca cn = 30 := by unfold putE; rw [h1]; rfl
        clear h1
        go_upto_region 12 with (go_at_call 15; refine G.mono ?_; rintro e w5 ⟨rfl, rfl⟩)
        all_goals
          clear cc1 cc2 cc3 e3 tF
          by_cases hF : F = 0
          · subst hF
            go_wp2_with fail
            refine (awake_any w4 hT4).mono ?_
            rintro e w5 ⟨rfl, b5⟩
            go_wp2
            go_ret
            exact ⟨rfl, b04.trans (b5.mono b04.size)⟩
          · have t1 : (F != 0) = true := by simpa using hF
            go_wp2_with fail
            refine (awake_any w4 hT4).mono ?_
            rintro e w5 ⟨rfl, b5⟩
            go_wp2
            go_ret
            exact ⟨rfl, b04.trans (b5.mono b04.size)⟩
      · have e3 : putE l ca cn = 0 := by unfold putE; rw [h1]; rfl
        have t2 : decide (ca ≤ i) = false := decide_eq_false h2
        clear h1
        go_upto_region 12 with (go_at_call 15; refine G.mono ?_; rintro e w5 ⟨rfl, rfl⟩)
        all_goals
          clear cc1 cc2 cc3 e3 tF t2 h2
          by_cases hF : F = 0
          · subst hF
            go_wp2_with fail
            refine (awake_any w4 hT4).mono ?_
            rintro e w5 ⟨rfl, b5⟩
            go_wp2
            go_ret
            exact ⟨rfl, b04.trans (b5.mono b04.size)⟩
          · have t1 : (F != 0) = true := by simpa using hF
            go_wp2_with fail
            refine (awake_any w4 hT4).mono ?_
            rintro e w5 ⟨rfl, b5⟩
            go_wp2
            go_ret
            exact ⟨rfl, b04.trans (b5.mono b04.size)⟩
      · have e3 : putE l ca cn = 0 := by unfold putE; rw [h1]; rfl
        have h5 : 0 ≤ ca := (of_decide_eq_true h1).1
        have t2 : decide (i - ca < cn) = false := decide_eq_false h3
        clear h1
        go_upto_region 12 with (go_at_call 15; refine G.mono ?_; rintro e w5 ⟨rfl, rfl⟩)
        all_goals
          clear cc1 cc2 cc3 e3 tF t2 h2 h3
          by_cases hF : F = 0
          · subst hF
            go_wp2_with fail
            refine (awake_any w4 hT4).mono ?_
            rintro e w5 ⟨rfl, b5⟩
            go_wp2
            go_ret
            exact ⟨rfl, b04.trans (b5.mono b04.size)⟩
          · have t1 : (F != 0) = true := by simpa using hF
            go_wp2_with fail
            refine (awake_any w4 hT4).mono ?_
            rintro e w5 ⟨rfl, b5⟩
            go_wp2
            go_ret
            exact ⟨rfl, b04.trans (b5.mono b04.size)⟩
end Go.Proofs.YtjfcgjmiianmkaaDoor

/-
  How the program holds two numbers, and two votes, against one another: contracts.
-/
import Derived.Test.YtbfamijlaoopaaaVwOwnM
import Derived.Deep.RegionHeld3
import Derived.Deep.Cut
namespace Go.Proofs.Ytbfamijlaoopaaa
open Go.RowKit
def cmpN (x y : Int) : Int := if x < y then -1 else if y < x then 1 else 0
/-- The method expression as a value. -/
def agv : Value := .func (.func 43) #[] #[]
set_option maxHeartbeats 400000 in
theorem isnan0 (x : Int) (w : World) : Calls Try.prog 60 #[.int .i64 x] w fun e w' => e = .returned (.bool false) ∧ w' = w := by
  go_enter Try.func60, Try.ntmps60
  go_wp2
  go_ret
  exact ⟨by simp, rfl⟩
set_option maxHeartbeats 400000 in
theorem compare0 (x y : Int) (w : World) : Calls Try.prog 54 #[.int .i64 x, .int .i64 y] w fun e w' => e = .returned (.int .i64 (cmpN x y)) ∧ w' = w := by
  unfold cmpN
  by_cases h1 : x < y
  · rw [if_pos h1]
    go_enter Try.func54, Try.ntmps54
    go_wp2_with (go_at_call 60; refine (isnan0 _ _).mono ?_; rintro e W2 ⟨rfl, rfl⟩)
    go_ret
    exact ⟨rfl, rfl⟩
  · rw [if_neg h1]
    by_cases h2 : y < x
    · rw [if_pos h2]
      go_enter Try.func54, Try.ntmps54
      go_wp2_with (go_at_call 60; refine (isnan0 _ _).mono ?_; rintro e W2 ⟨rfl, rfl⟩)
      go_ret
      exact ⟨rfl, rfl⟩
    · rw [if_neg h2]
      go_enter Try.func54, Try.ntmps54
      go_wp2_with (go_at_call 60; refine (isnan0 _ _).mono ?_; rintro e W2 ⟨rfl, rfl⟩)
      go_ret
      exact ⟨rfl, rfl⟩
set_option maxHeartbeats 400000 in
theorem against0 (x y : Int) (w : World) : Calls Try.prog 43 #[.int .i64 x, .int .i64 y] w fun e w' => e = .returned (.int .i64 (cmpN x y)) ∧ w' = w := by
  have H := compare0 x y w
  generalize cmpN x y = r at H
  go_enter Try.func43, Try.ntmps43
  go_wp2_with (go_at_call 54; refine H.mono ?_; rintro e W2 ⟨rfl, rfl⟩)
  go_ret
  exact ⟨rfl, rfl⟩
set_option maxHeartbeats 400000 in
theorem order0 (w : World) : Calls Try.prog 33 #[] w fun e w' => e = .returned agv ∧ w' = w := by
  unfold agv
  go_enter Try.func33, Try.ntmps33
  go_wp2
  go_ret
  exact ⟨rfl, rfl⟩
def OrRel (W : World) (a b : Int) (i : Value) (wr : World) : Prop := ∃ k : Nat, k ≤ 2 ∧ i = .int .i64 (k : Int) ∧ (1 ≤ k → a = 0) ∧ (2 ≤ k → b = 0) ∧ wr = W
set_option maxHeartbeats 1000000 in
theorem or0 {g : Nat} {a b : Int} {w : World} (c0 : w.cell? ⟨g, 0, none⟩ = some (.int .i64 a)) (c1 : w.cell? ⟨g, 1, none⟩ = some (.int .i64 b)) : Calls Try.prog 36 #[.slice (some ⟨g, 0, none⟩) 2 2] w fun e w' => e = .returned (.int .i64 (if a = 0 then b else a)) ∧ w' = w := by
  obtain ⟨r, hr⟩ : ∃ r, r = if a = 0 then b else a := ⟨_, rfl⟩
  rw [← hr]
  have HR := Lib.hid hr
  clear hr
  go_enter Try.func36, Try.ntmps36
  go_wp2
  go_loopw [8] (OrRel w a b) (fun i _ => 2 - (Go.RowKit.intOf i).toNat)
  case atStart => exact ⟨0, by omega, rfl, fun h => by omega, fun h => by omega, rfl⟩
  case round =>
    obtain ⟨k, hk, rfl, ha, hb, rfl⟩ := hrel
    have HA := Lib.hid ha
    have HB := Lib.hid hb
    clear ha hb
    rcases (by omega : k = 0 ∨ k = 1 ∨ k = 2) with rfl | rfl | rfl
    · by_cases h : a = 0
      · have h1 : (a == 0) = true := by simp [h]
        have h2 : decide (a = 0) = true := by simp [h]
        have H := Lib.hid h
        clear h
        go_wp2
        go_roundw
        case rel => exact ⟨1, by omega, by go_num, fun _ => H.out, fun h => by omega, rfl⟩
        case measure => simp [Go.RowKit.intOf]
      · have h1 : (a == 0) = false := by simp [h]
        have h2 : decide (a = 0) = false := by simp [h]
        obtain rfl : r = a := by rw [HR.out, if_neg h]
        clear h
        go_wp2
        go_ret
        exact ⟨rfl, rfl⟩
    · have ha0 := HA.out (by omega)
      obtain rfl : r = b := by rw [HR.out, if_pos ha0]
      clear ha0
      by_cases h : r = 0
      · have h1 : (r == 0) = true := by simp [h]
        have h2 : decide (r = 0) = true := by simp [h]
        have H := Lib.hid h
        clear h
        go_wp2
        go_roundw
        case rel => exact ⟨2, by omega, by go_num, fun _ => HA.out (by omega), fun _ => H.out, rfl⟩
        case measure => simp [Go.RowKit.intOf]
      · have h1 : (r == 0) = false := by simp [h]
        have h2 : decide (r = 0) = false := by simp [h]
        clear h
        go_wp2
        go_ret
        exact ⟨rfl, rfl⟩
    · have ha0 := HA.out (by omega)
      obtain rfl : r = b := by rw [HR.out, if_pos ha0]
      obtain rfl := HB.out (by omega)
      go_wp2
      go_ret
      exact ⟨rfl, rfl⟩
theorem cmpV_or (a b : Vt) : (if cmpN a.nm b.nm = 0 then cmpN a.n b.n else cmpN a.nm b.nm) = cmpV a b := by
  unfold cmpV cmpN
  repeat' split <;> try omega
/-- A function literal that captured the method expression: how two votes are held against one another. -/
def vtv (a : Vt) : Value := .agg (vtc a).toArray
set_option maxHeartbeats 1000000 in
theorem newer0 (a b : Vt) {p : Nat} {w : World} (hp : p < w.heap.size) (cp : w.cell? ⟨p, 0, none⟩ = some agv) : Calls Try.prog 35 #[vtv a, vtv b, .pointer (some ⟨p, 0, none⟩)] w fun e w' => e = .returned (.int .i64 (cmpV a b)) ∧ Below w.heap.size w w' := by
  have HE := Lib.hid (cmpV_or a b)
  have hA := (Whole.new w (vtc a).toArray 51).alloc (.cells (vtc b).toArray 51)
  have hB := Whole.new (w.alloc (.cells (vtc a).toArray 51)) (vtc b).toArray 51
  have hb := ((Below.refl w.heap.size w).alloc (Nat.le_refl _) (.cells (vtc a).toArray 51)).alloc (by simp) (.cells (vtc b).toArray 51)
  have cp2 := (hb.cell (p := ⟨p, 0, none⟩) hp).trans cp
  have OR : ∀ (W : World) (x y : Int), Calls Try.prog 36 #[.slice (some ⟨W.heap.size, 0, none⟩) 2 2] (W.alloc (.cells #[.int .i64 x, .int .i64 y] 3)).drew fun e w' => (∃ r, e = .returned (.int .i64 r) ∧ Hid (r = if x = 0 then y else x)) ∧ w' = (W.alloc (.cells #[.int .i64 x, .int .i64 y] 3)).drew := fun W x y => (or0 ((Whole.new W #[.int .i64 x, .int .i64 y] 3).drew.cell 0) ((Whole.new W #[.int .i64 x, .int .i64 y] 3).drew.cell 1)).mono fun e w' h => ⟨⟨_, h.1, Lib.hid rfl⟩, h.2⟩
  have hs : w.heap.size + 1 = (w.alloc (.cells (vtc a).toArray 51)).heap.size := by simp
  rw [← hs] at hB
  clear hs
  have HA := Lib.hid hA
  have HB1 := Lib.hid hB
  have HB2 := Lib.hid hb
  have HC2 := Lib.hid cp2
  have HO := Lib.hid OR
  clear hA hB hb cp2 OR cp
  obtain ⟨a0, a1, a2, a3, a4, a5, a6, a7⟩ := a
  obtain ⟨b0, b1, b2, b3, b4, b5, b6, b7⟩ := b
  simp only [vtv, vtc, Vt.e, agv] at *
  go_enter Try.func35, Try.ntmps35
  go_upto_region 1 with (fail)
  generalize (w.alloc (.cells _ 51)).alloc (.cells _ 51) = W0 at HA HB1 HB2 HC2 ⊢
  have hA := HA.out
  have hB := HB1.out
  have hb := HB2.out
  have cp2 := HC2.out
  have mkS : ∀ W, Below W0.heap.size W0 W → W.cell? ⟨p, 0, none⟩ = some (.func (.func 43) #[] #[]) ∧ W.cell? ⟨w.heap.size, 1, none⟩ = some (.int .i64 a1) ∧ W.cell? ⟨w.heap.size, 3, none⟩ = some (.int .i64 a3) ∧ W.cell? ⟨w.heap.size + 1, 1, none⟩ = some (.int .i64 b1) ∧ W.cell? ⟨w.heap.size + 1, 3, none⟩ = some (.int .i64 b3) := fun W h =>
    ⟨(h.cell (p := ⟨p, 0, none⟩) (Nat.lt_of_lt_of_le hp hb.size)).trans cp2, (hA.below h).cell 1, (hA.below h).cell 3, (hB.below h).cell 1, (hB.below h).cell 3⟩
  have MS := Lib.hid mkS
  have HB := Lib.hid hb
  clear mkS hA hB hb cp2 HA HB1 HB2 HC2 hp
  go_region_held3 (fun W => W.cell? ⟨p, 0, none⟩ = some (.func (.func 43) #[] #[]) ∧ W.cell? ⟨w.heap.size, 1, none⟩ = some (.int .i64 a1) ∧ W.cell? ⟨w.heap.size, 3, none⟩ = some (.int .i64 a3) ∧ W.cell? ⟨w.heap.size + 1, 1, none⟩ = some (.int .i64 b1) ∧ W.cell? ⟨w.heap.size + 1, 3, none⟩ = some (.int .i64 b3)) (first | exact MS.out _ (Below.refl _ _) | exact MS.out _ (Below.refl _ _).drew | exact MS.out _ ((Below.refl _ _).drew.alloc (Nat.le_refl _) _)) (first | (go_at_call 43; refine (against0 _ _ _).mono ?_; rintro e w2 ⟨rfl, rfl⟩) | (go_at_call 36; refine (HO.out _ _ _).mono ?_; rintro e w3 ⟨⟨r, rfl, HR⟩, rfl⟩))
  all_goals (
    rename_i hH
    clear hH MS HO
    go_wp2_with fail
    go_ret
    exact ⟨by rw [← HE.out, ← HR.out]; rfl, (HB.out.alloc HB.out.size _).drew⟩)
end Go.Proofs.Ytbfamijlaoopaaa

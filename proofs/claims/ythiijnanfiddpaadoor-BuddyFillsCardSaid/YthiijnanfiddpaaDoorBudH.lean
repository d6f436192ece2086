/-
  Whether free blocks are right, whether it may be asked, whether there is room; the whole region: contracts.
-/
import Derived.Test.YthiijnanfiddpaaDoorBudG
import Derived.Test.YthiijnanfiddpaaDoorShelf
namespace Go.Proofs.YthiijnanfiddpaaDoor
open Go.RowKit

def chkE (r : Int) (l : List Blk) : Int := if Right r l then 0 else 1
theorem chkE_yes {r : Int} {l : List Blk} (h : Right r l) : chkE r l = 0 := if_pos h
theorem chkE_no {r : Int} {l : List Blk} (h : ¬ Right r l) : chkE r l = 1 := if_neg h

/-- What freeWords does, whatever the order. -/
theorem freeWords_any (r : Int) (A : Option Addr) (n c : Nat) (l : List Blk) (w : World) (h : RdS w A n l) (hn : n ≤ 1000) (hT : Tab w) :
    Calls Tryd.prog 32 #[.int .i64 r, .slice A n c] w fun e w' => (Right r l ∧ MapOf w r l e w') ∨ (¬ Right r l ∧ NoWords w e w') := by
  by_cases hr : 3 ≤ r ∧ r ≤ 8
  · exact freeWords_in r A n c l w hr h hn hT
  · exact (freeWords_out r A n c w hr).mono fun e w' h => .inr ⟨fun q => hr q.1, h⟩

set_option maxHeartbeats 1000000 in
theorem check_any (r : Int) (A : Option Addr) (n c : Nat) (l : List Blk) (w : World) (h : RdS w A n l) (hn : n ≤ 1000) (hT : Tab w) :
    Calls Tryd.prog 12 #[.int .i64 r, .slice A n c] w (Tells w (.int .i64 (chkE r l))) := by
  have S := freeWords_any r A n c l w h hn hT
  by_cases hR : Right r l
  · rw [chkE_yes hR]
    have S2 : Calls Tryd.prog 32 #[.int .i64 r, .slice A n c] w (MapOf w r l) := S.mono fun e w' h => h.elim (fun h => h.2) (fun h => absurd hR h.1)
    clear S h
    go_enter Tryd.func12, Tryd.ntmps12
    go_wp2_with (go_at_call 32; refine S2.mono ?_; rintro e w1 ⟨g, h, m, rfl, _, _, _, _, b1⟩)
    go_ret
    exact ⟨rfl, b1⟩
  · rw [chkE_no hR]
    have S2 : Calls Tryd.prog 32 #[.int .i64 r, .slice A n c] w (NoWords w) := S.mono fun e w' h => h.elim (fun h => absurd h.1 hR) (fun h => h.2)
    clear S h
    go_enter Tryd.func12, Tryd.ntmps12
    go_wp2_with (go_at_call 32; refine S2.mono ?_; rintro e w1 ⟨rfl, b1⟩)
    go_ret
    exact ⟨rfl, b1⟩

/-- It may be asked for a block of this order. -/
def mayTk (r : Int) (l : List Blk) (t : Int) : Bool := decide (Right r l) && (decide (0 ≤ t) && decide (t ≤ r))
set_option maxHeartbeats 1000000 in
theorem mayTake_any (r : Int) (A : Option Addr) (n c : Nat) (l : List Blk) (t : Int) (w : World) (h : RdS w A n l) (hn : n ≤ 1000) (hT : Tab w) :
    Calls Tryd.prog 36 #[.int .i64 r, .slice A n c, .int .i64 t] w (Tells w (.bool (mayTk r l t))) := by
  have S := check_any r A n c l w h hn hT
  clear h
  unfold mayTk
  by_cases hR : Right r l
  · rw [chkE_yes hR] at S
    rw [decide_eq_true hR, Bool.true_and]
    by_cases h0 : 0 ≤ t
    · rw [decide_eq_true h0, Bool.true_and]
      go_enter Tryd.func36, Tryd.ntmps36
      go_wp2_with (go_at_call 12; refine S.mono ?_; rintro e w1 ⟨rfl, b1⟩)
      go_ret
      exact ⟨rfl, b1⟩
    · rw [decide_eq_false h0, Bool.false_and]
      go_enter Tryd.func36, Tryd.ntmps36
      go_wp2_with (go_at_call 12; refine S.mono ?_; rintro e w1 ⟨rfl, b1⟩)
      go_ret
      exact ⟨rfl, b1⟩
  · rw [chkE_no hR] at S
    rw [decide_eq_false hR, Bool.false_and]
    go_enter Tryd.func36, Tryd.ntmps36
    go_wp2_with (go_at_call 12; refine S.mono ?_; rintro e w1 ⟨rfl, b1⟩)
    go_ret
    exact ⟨rfl, b1⟩

/-- There is a free block of this order or a greater one. -/
def roomB (l : List Blk) (t : Int) : Bool := l.any fun b => decide (t ≤ b.2)
theorem pred_room (t : Int) (B : Nat) (w : World) (hB : B < w.heap.size) (hcell : w.cell? ⟨B, 0, none⟩ = some (.int .i64 t)) :
    PredBelow Tryd.prog 55 #[.pointer (some ⟨B, 0, none⟩)] (fun x : Blk => .agg (enc2 x).toArray) (fun x => decide (t ≤ x.2)) w := fun W x hb => by
  have hc : W.cell? ⟨B, 0, none⟩ = some (.int .i64 t) := (hb.cell (p := ⟨B, 0, none⟩) hB).trans hcell
  have hBW : B < W.heap.size := Nat.lt_of_lt_of_le hB hb.size
  have hne : B ≠ W.heap.size := by omega
  show Calls Tryd.prog 55 #[.agg #[.int .i64 x.1, .int .i64 x.2], .pointer (some ⟨B, 0, none⟩)] W _
  go_enter Tryd.func55, Tryd.ntmps55
  go_wp2
  all_goals (go_ret; exact ⟨by simp_all, hb.alloc hb.size _⟩)
set_option maxHeartbeats 400000 in
theorem index_none (A : Option Addr) (c : Nat) (v : Value) (w : World) :
    Calls Tryd.prog 68 #[.slice A 0 c, v] w fun e w' => e = .returned (.int .i64 (-1)) ∧ w = w' := by
  go_enter Tryd.func68, Tryd.ntmps68
  go_wp2
  go_loop [8] (fun i => i = .int .i64 0) (fun _ => 1)
  case atStart => rfl
  case round =>
    subst hrel
    go_wp2
    go_ret
    exact ⟨rfl, rfl⟩
set_option maxHeartbeats 1000000 in
theorem hasRoom_any (A : Option Addr) (n c : Nat) (l : List Blk) (t : Int) (w : World) (h : RdS w A n l) (hn : n ≤ 1000) :
    Calls Tryd.prog 37 #[.slice A n c, .int .i64 t] w (Tells w (.bool (roomB l t))) := by
  have hlen := h.len
  by_cases h0 : n = 0
  · subst h0
    obtain rfl : l = [] := List.eq_nil_of_length_eq_zero hlen
    have S := index_none A c
    go_enter Tryd.func37, Tryd.ntmps37
    go_wp2_with (first | (go_at_call 68; refine (S _ _).mono ?_; rintro e w1 ⟨rfl, rfl⟩) | go_in)
    go_ret
    exact ⟨rfl, (Below.refl _ _).alloc (Nat.le_refl _) _⟩
  · obtain ⟨b, off, rfl, hb, hc⟩ := h.at_ (by omega)
    have eg : ∀ args w, (callFunc 55 args).run Tryd.prog w = .ok (.enter 55 args) w := enters_of Tryd.func55 (by kernel_rfl) rfl
    have hcon := AnyQ.slices_ContainsFunc Tryd.containsB 2 Tryd.isAgg32 Tryd.sizeOf32 enc2 (fun _ => rfl) (fun x => decide (t ≤ x.2)) 55 #[.pointer (some ⟨w.heap.size, 0, none⟩)] eg b off n c l (w.alloc (.cells #[.int .i64 t] 3))
      (pred_room t w.heap.size _ (by simp) (by simp)) (by omega) (by omega) (by simp; omega) (fun j hj i v hi => by
        refine Lib.cell?_alloc_some _ ?_
        have h1 := hc j _ (List.getElem?_eq_getElem hj)
        rw [getElem!_pos l j hj] at hi
        match i, hi with
        | 0, hi => simp [enc2] at hi; rw [← hi]; exact h1.1
        | 1, hi => simp [enc2] at hi; rw [← hi]; exact h1.2
        | i + 2, hi => simp [enc2] at hi)
    rw [List.take_of_length_le (by omega)] at hcon
    change Calls Tryd.prog 54 _ _ _ at hcon
    unfold roomB
    generalize l.any (fun x => decide (t ≤ x.2)) = q at hcon ⊢
    clear hc h
    go_enter Tryd.func37, Tryd.ntmps37
    go_wp2_with (go_at_call 54; refine hcon.mono ?_; rintro e w' ⟨rfl, hb'⟩)
    go_ret
    exact ⟨rfl, ((Below.refl _ w).alloc (Nat.le_refl _) _).trans (hb'.mono (by simp))⟩

set_option maxHeartbeats 1000000 in
theorem room_any (r : Int) (A : Option Addr) (n c : Nat) (l : List Blk) (t : Int) (w : World) (h : RdS w A n l) (hn : n ≤ 1000) (hT : Tab w) :
    Calls Tryd.prog 20 #[.int .i64 r, .slice A n c, .int .i64 t] w (Tells w (.bool (mayTk r l t && roomB l t))) := by
  have S1 := mayTake_any r A n c l t w h hn hT
  have S2 := fun (W : World) (b : Below w.heap.size w W) => hasRoom_any A n c l t W (h.below b) hn
  clear h
  cases hm : mayTk r l t with
  | false =>
    rw [hm] at S1
    rw [Bool.false_and]
    go_enter Tryd.func20, Tryd.ntmps20
    go_wp2_with (go_at_call 36; refine S1.mono ?_; rintro e w1 ⟨rfl, b1⟩)
    go_ret
    exact ⟨rfl, b1⟩
  | true =>
    rw [hm] at S1
    rw [Bool.true_and]
    go_enter Tryd.func20, Tryd.ntmps20
    go_wp2_with (first | (go_at_call 36; refine S1.mono ?_; rintro e w1 ⟨rfl, b1⟩) | (go_at_call 37; refine (S2 _ b1).mono ?_; rintro e w2 ⟨rfl, b2⟩))
    go_ret
    exact ⟨rfl, b1.trans (b2.mono b1.size)⟩

/-- The whole region, or a refusal. -/
def GivesL (w : World) (l : List Blk) (er : Int) (e : Ending) (w' : World) : Prop := ∃ v, e = .returned (.tuple #[v, .int .i64 er]) ∧ OwnB 32 w' w.heap.size v l ∧ Below w.heap.size w w'
def allL (r : Int) : List Blk := if 3 ≤ r ∧ r ≤ 8 then [(0, r)] else []
def allE (r : Int) : Int := if 3 ≤ r ∧ r ≤ 8 then 0 else 1
set_option maxHeartbeats 1000000 in
theorem all_any (r : Int) (w : World) : Calls Tryd.prog 11 #[.int .i64 r] w (GivesL w (allL r) (allE r)) := by
  have S := fun W => isRegion_any r W
  unfold allL allE
  by_cases hr : 3 ≤ r ∧ r ≤ 8
  · rw [decide_eq_true hr] at S
    rw [if_pos hr, if_pos hr]
    go_enter Tryd.func11, Tryd.ntmps11
    go_wp2_with (go_at_call 31; refine (S _).mono ?_; rintro e w1 ⟨rfl, rfl⟩)
    go_ret2
    exact ⟨_, rfl, OwnB.one _ (0, r) _ rfl (Nat.le_refl _), (Below.refl _ _).alloc (Nat.le_refl _) _⟩
  · rw [decide_eq_false hr] at S
    rw [if_neg hr, if_neg hr]
    go_enter Tryd.func11, Tryd.ntmps11
    go_wp2_with (go_at_call 31; refine (S _).mono ?_; rintro e w1 ⟨rfl, rfl⟩)
    go_ret2
    exact ⟨_, rfl, OwnB.nil, Below.refl _ _⟩
end Go.Proofs.YthiijnanfiddpaaDoor

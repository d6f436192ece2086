/-
  Package redo: a sector is written; the part's name; the root is laid down (settle): contracts at a disk that has not stopped.
-/
import Derived.Test.YtcogglanbpphpaaLgRs
namespace Go.Proofs.Ytcogglanbpphpaa
open Go.RowKit

/-- A disk that goes on. -/
structure Goes (S : Dk) : Prop where
  down : S.down = false
  left : S.left = 0
/-- A sector is written whole. -/
def setS (S : Dk) (k : Nat) (x : List UInt8) : Dk := { S with now := fun j => if j = k then x else S.now j, had := remH S k }
theorem Goes.set {S : Dk} (h : Goes S) (k : Nat) (x : List UInt8) : Goes (setS S k x) := ⟨h.down, h.left⟩
theorem full_64 {x : List UInt8} (h : x.length = 64) : full x = x := by simp [full, h]
theorem wrS_set {S : Dk} (h : Goes S) {n k : Nat} (hk : k < n) {x : List UInt8} (hx : x.length = 64) : wrS n S (k : Int) x = setS S k x := by
  have h1 : S.down = false ∧ (0 ≤ (k : Int) ∧ (k : Int) < n) ∧ x.length ≤ 64 := ⟨h.down, ⟨by omega, by omega⟩, by omega⟩
  rw [wrS, if_pos h1, Int.toNat_natCast, didS, if_neg (by show ¬ 0 < S.left; rw [h.left]; omega), putS, full_64 hx]
  rfl
theorem wrE_set {S : Dk} (h : Goes S) {n k : Nat} (hk : k < n) {x : List UInt8} (hx : x.length = 64) : wrE n S (k : Int) x = 0 := by
  rw [wrE, h.down, if_neg (by simp), if_neg (by omega), if_neg (by omega)]
def flushS (S : Dk) : Dk := { S with had := fun _ => none }
theorem Goes.flush {S : Dk} (h : Goes S) : Goes (flushS S) := ⟨h.down, h.left⟩
theorem flS_flush {S : Dk} (h : Goes S) : flS S = flushS S := by
  have h1 := h.down
  have h2 := h.left
  cases S
  simp_all [flS, didS, flushS]
theorem flE_flush {S : Dk} (h : Goes S) : flE S = 0 := by
  rw [flE, h.down]
  rfl
/-- What a call that tells nothing leaves. -/
def Did (w : World) (p q r n : Nat) (T : Dk) (e : Ending) (w' : World) : Prop := e = .returned (.tuple #[]) ∧ DAt w' p q r n T ∧ Oth (ds p q r) w w'
section
variable {w : World} {g p fr se ag fi st q r n : Nat} {z : Value} {S : Dk}
theorem LAt.oth (h : LAt w g p fr se ag fi st z) {w' : World} (ho : Oth (ds p q r) w w') (hg : ¬ ds p q r g) : LAt w' g p fr se ag fi st z := h.keep (ho.block g h.lt hg)
set_option maxHeartbeats 2000000 in
theorem write_log (h : LAt w g p fr se ag fi st z) (hd : DAt w p q r n S) (hg : Goes S) {k : Nat} (hk : k < n) {c : Ct} (hc : c.Ok) :
    Calls Try.prog 22 #[.pointer (some ⟨g, 0, none⟩), .int .i64 (k : Int), c.val] w (Did w p q r n (setS S k c.laid)) := by
  have hlen := hc.len
  have HC := Lib.hid hc
  have HG := Lib.hid hg
  have HD := Lib.hid (hd.alloc (.cells c.cs.toArray 57))
  have HL := Lib.hid (h.alloc (.cells c.cs.toArray 57))
  have HO : Hid (Oth (ds p q r) w (w.alloc (.cells c.cs.toArray 57))) := Lib.hid ((Oth.refl _ w).alloc _)
  have HK := Lib.hid (Whole.new w c.cs.toArray 57)
  have Hl := Lib.hid (laid_any hc)
  have Hx := Lib.hid hlen
  obtain ⟨x, hx⟩ : ∃ x, x = c.laid := ⟨_, rfl⟩
  rw [← hx] at Hx Hl ⊢
  clear h hd hc hg hlen hx
  unfold Ct.val Ct.cs sv at *
  go_enter Try.func22, Try.ntmps22
  go_wp2_with fail
  have c0 : ∀ W, W = w.alloc (.cells #[.int .i64 (c.kd : Int), .int .i64 (c.ag : Int), .int .i64 (c.nu : Int), .int .i64 (c.pl : Int), .int .i64 (c.sz : Int), .string ⟨c.tx.toArray⟩] 57) → DAt W p q r n S ∧ LAt W g p fr se ag fi st z ∧ Oth (ds p q r) w W ∧ Whole W w.heap.size 57 [.int .i64 (c.kd : Int), .int .i64 (c.ag : Int), .int .i64 (c.nu : Int), .int .i64 (c.pl : Int), .int .i64 (c.sz : Int), .string ⟨c.tx.toArray⟩] := by
    rintro W rfl
    exact ⟨HD.out, HL.out, HO.out, HK.out⟩
  clear HD HL HO HK
  generalize w.alloc (.cells #[.int .i64 (c.kd : Int), .int .i64 (c.ag : Int), .int .i64 (c.nu : Int), .int .i64 (c.pl : Int), .int .i64 (c.sz : Int), .string ⟨c.tx.toArray⟩] 57) = W at c0 ⊢
  obtain ⟨hD, hL, hO, hK⟩ := c0 W rfl
  clear c0
  have HD := Lib.hid hD.drew
  have HO := Lib.hid (show Oth (ds p q r) w W.drew from hO.drew)
  have HLL := Lib.hid hL.drew
  have c0 := hL.drew.c0
  have k0 : W.drew.cell? ⟨w.heap.size, 0, none⟩ = _ := hK.cell 0
  have k1 : W.drew.cell? ⟨w.heap.size, 1, none⟩ = _ := hK.cell 1
  have k2 : W.drew.cell? ⟨w.heap.size, 2, none⟩ = _ := hK.cell 2
  have k3 : W.drew.cell? ⟨w.heap.size, 3, none⟩ = _ := hK.cell 3
  have k4 : W.drew.cell? ⟨w.heap.size, 4, none⟩ = _ := hK.cell 4
  have k5 : W.drew.cell? ⟨w.heap.size, 5, none⟩ = _ := hK.cell 5
  simp only [List.getElem?_cons_succ, List.getElem?_cons_zero] at k0 k1 k2 k3 k4 k5
  clear hD hL hO hK HC
  go_region_with (first | (go_at_call 41; refine (Hl.out _).mono ?_; rintro e w1 ⟨v1, rfl, hown1, hb1⟩; obtain ⟨A1, c1, rfl, hc1, hm1, hr1⟩ := hown1.shapeN Hx.out; have d0 := (HLL.out.below hb1).c0; have hD1 := HD.out.below hb1; have hA1 : ∀ a, A1 = some a → ¬ ds p q r a.block := (by intro a ha hq; subst ha; have h1 := (hown1.lt a.block rfl).1; have h2 := HD.out.lt hq; omega); have hW := write_any (m := 64) (c := c1) hD1 (k : Int) hr1 (fun _ => hA1) (wrS_set HG.out hk Hx.out).symm (wrE_set HG.out hk Hx.out).symm; have HO1 := Lib.hid (HO.out.trans (Oth.of_below hb1 (ds p q r))); clear hD1 hA1) | (go_at_call 40; refine hW.mono ?_; rintro e w2 ⟨rfl, hD2, hO2⟩; have HF := Lib.hid (And.intro hD2 (HO1.out.trans hO2)); clear hD2 hO2) | (go_at_call 39; refine (done_yes _).mono ?_; rintro e w3 ⟨rfl, rfl⟩))
  all_goals (
    go_wp2
    go_end0
    exact ⟨rfl, HF.out.1, HF.out.2⟩)
end
end Go.Proofs.Ytcogglanbpphpaa

/-
  The walk of the law BuddyGives: it says true, whatever came in, and nothing that was there is written over.
-/
import Derived.Test.YthiijnanfiddpaaDoorBudLawB
namespace Go.Proofs.YthiijnanfiddpaaDoor
open Go.RowKit

/-- The call's own row is written over, so far. -/
def WipeRel (W : World) (base : Nat) (v : Value) (n : Nat) (i : Value) (wr : World) : Prop :=
  ∃ (k : Nat) (cs : List Value), i = .int .i64 (k : Int) ∧ k ≤ n ∧ wr.ownsRow base 32 2 v n cs ∧ W.grownBy wr v.ownBlock
theorem wipe_start {W : World} {base : Nat} {v : Value} {l : List Blk} (h : OwnB 32 W base v l) {n : Nat} (hn : l.length = n) : WipeRel W base v n (.int .i64 0) W := by
  subst hn
  exact ⟨0, bcs l, rfl, Nat.zero_le _, h, rfl, rfl, rfl, Nat.le_refl _, fun _ _ _ => rfl⟩
theorem wipe_cell {wr : World} {base g n cap k : Nat} {cs : List Value} (hk : k < n) (h : wr.ownsRow base 32 2 (.slice (some ⟨g, 0, none⟩) n cap) n cs) :
    (∃ u, wr.cell? ⟨g, k * 2, none⟩ = some u) ∧ wr.frozen? ⟨g, k * 2, none⟩ = false := by
  refine ⟨?_, World.ownsRow.frozenAt h _⟩
  have := h.1
  rw [World.ownsRow.cellAt h (k * 2) (by omega), List.getElem?_eq_getElem (by omega)]
  exact ⟨_, rfl⟩
theorem GiveRes.len {r er : Int} {l m : List Blk} {b : Blk} (h : GiveRes r l b m er) : m.length ≤ 256 := by
  rcases h with ⟨_, rfl, _⟩ | ⟨_, _, rfl, _⟩ | ⟨_, _, _, h⟩
  · simp
  · simp
  · exact h.1.len256

set_option maxRecDepth 100000 in
set_option maxHeartbeats 4000000 in
theorem buddyGives_walk (r : Int) (A : Option Addr) (m c : Nat) (b : Blk) (l : List Blk) (w : World) (hT : Tab w) (h : RdS w A m l) :
    Calls Tryd.prog 5 #[.int .i64 r, .slice A m c, bval b] w (Holds w) := by
  have B0 := (Below.refl w.heap.size w).alloc (Nat.le_refl _) (.cells #[.int .i64 b.1, .int .i64 b.2] 32)
  have X0 := Box2.new w b 32
  have HB := Lib.hid B0
  have HX := Lib.hid X0
  by_cases hm : 600 < m
  · clear B0 X0
    unfold bval enc2
    go_enter Tryd.func5, Tryd.ntmps5
    go_wp2
    go_ret
    exact ⟨rfl, HB.out⟩
  have t0 : decide (600 < (m : Int)) = false := by simp; omega
  have hlen := Lib.hid h.len
  have S1 := refOwn_any A m c l _ (h.below B0) (by omega)
  have HR := Lib.hid h
  have HT := Lib.hid hT
  have hz0 : (w.alloc (.cells #[.int .i64 b.1, .int .i64 b.2] 32)).heap.size = w.heap.size + 1 := by simp
  clear B0 X0 h hT
  have hbv : bval b = .agg #[.int .i64 b.1, .int .i64 b.2] := rfl
  have hbe : b = (b.1, b.2) := rfl
  obtain ⟨y, p⟩ := b
  unfold bval enc2
  simp only at *
  clear hbv hbe
  go_enter Tryd.func5, Tryd.ntmps5
  go_upto_region 4 with (go_at_call 10; refine S1.mono ?_; rintro e w1 ⟨v1, rfl, o1, b1⟩; obtain ⟨A1, c1, rfl, r1⟩ := o1.rdn hlen.out)
  have X1 := HX.out.below b1
  have B1 := HB.out.trans (b1.mono HB.out.size)
  have S2 := give_any r A m c l (y, p) w1 (HR.out.below B1) (by omega) (HT.out.below B1)
  have i0 := X1.c0
  have i1 := X1.c1
  unfold bval enc2 at S2
  simp only at S2 i0 i1
  clear S1 o1
  go_upto_region 5 with (go_at_call 24; refine S2.mono ?_; rintro e w2 ⟨ms, er, v2, rfl, res, o2, b2⟩; obtain ⟨A2, c2, rfl, r2⟩ := o2.rdn (n := ms.length) rfl)
  have X2 := X1.below b2
  have B2 := B1.trans (b2.mono B1.size)
  have r12 := r1.below b2
  have S3 := refGive_any r A1 m c1 l (y, p) w2 r12 (by omega)
  clear S2 i0 i1
  have i0 := X2.c0
  have i1 := X2.c1
  unfold bval enc2 at S3
  simp only at S3 i0 i1
  go_upto_region 6 with (go_at_call 25; refine S3.mono ?_; rintro e w3 hP; obtain ⟨v3, rfl, o3, b3⟩ := hP.is res; obtain ⟨A3, c3, rfl, r3⟩ := o3.rdn (n := ms.length) rfl)
  have B3 := B2.trans (b3.mono B2.size)
  have hl2 := res.len
  have r23 := r2.below b3
  have o23 := o2.below b3
  have S4 := refSame_any A2 A3 ms.length c2 ms.length c3 ms ms w3 r23 r3 (by omega)
  rw [decide_eq_true rfl] at S4
  have hw1 : w.heap.size ≤ w1.heap.size := B1.size
  have b13 := b2.trans (b3.mono b2.size)
  clear S3 i0 i1 o2 o3 r2 r23 r3
  obtain ⟨n2, hn2⟩ : ∃ n, n = ms.length := ⟨_, rfl⟩
  rw [← hn2] at S4 o23 ⊢
  have Hn2 := Lib.hid hn2
  have hn2l : n2 ≤ 256 := by omega
  clear hn2
  go_upto_region 8 with (go_at_call 15; refine S4.mono ?_; rintro e w4 ⟨rfl, g4⟩)
  have B4 := B3.trans (g4.below.mono B3.size)
  have o4 := o23.below g4.below
  have b14 := b13.trans (g4.below.mono b13.size)
  clear S4
  go_loopw [13] (WipeRel w4 w1.heap.size (.slice A2 n2 c2) n2) (fun i _ => n2 - (intOf i).toNat)
  case atStart => exact wipe_start o4 Hn2.out.symm
  case round =>
    obtain ⟨k, cs, rfl, hk, ho, hG⟩ := hrel
    by_cases hlt : k < n2
    · obtain ⟨g, cap, hv, hbg, hgl⟩ := ho.form (by omega)
      injection hv with e1 e2 e3
      subst e1
      subst e3
      obtain ⟨⟨u, hu⟩, hf⟩ := wipe_cell hlt ho
      have hki : (k : Int) < (n2 : Int) := by omega
      have HO := Lib.hid ho
      have HG := Lib.hid hG
      clear ho hG
      go_wp2
      go_roundw
      case rel => exact ⟨k + 1, _, by go_num, hlt, (World.ownsRow.stored HO.out (k * 2) _).1, grown_trans HG.out (World.ownsRow.stored HO.out (k * 2) _).2⟩
      case measure => simp [intOf]; omega
    · obtain rfl : k = n2 := by omega
      have BW : Below w1.heap.size w1 wr := b14.grown hG b14.size fun j hj => by have := World.ownsRow.lt ho j hj; omega
      have BF := B1.trans (BW.mono hw1)
      have S5 := takes_law wr (HT.out.below BF)
      have S6 := fun W (bb : Below wr.heap.size wr W) => refSame_any A A1 m c m c1 l l W (HR.out.below (BF.trans (bb.mono BF.size))) (r1.below (BW.trans (bb.mono BW.size))) (by omega)
      rw [decide_eq_true rfl] at S6
      clear ho hG
      go_wp2_with (first | (go_at_call 23; refine S5.mono ?_; rintro e w5 ⟨rfl, b5⟩) | (go_at_call 15; refine (S6 _ b5).mono ?_; rintro e w6 ⟨rfl, g6⟩))
      go_ret
      exact ⟨by first | (simp; done) | (simp; omega), BF.trans ((b5.trans (g6.below.mono b5.size)).mono BF.size)⟩
end Go.Proofs.YthiijnanfiddpaaDoor

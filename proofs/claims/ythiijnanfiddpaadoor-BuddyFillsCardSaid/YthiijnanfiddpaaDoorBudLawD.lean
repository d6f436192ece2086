/-
  The walk of the law BuddyTakes: it says true, whatever came in, and nothing that was there is written over.
-/
import Derived.Test.YthiijnanfiddpaaDoorBudLawC
namespace Go.Proofs.YthiijnanfiddpaaDoor
open Go.RowKit

theorem TakeRes.len {r t er : Int} {l m : List Blk} {b : Blk} (h : TakeRes r l t b m er) : m.length ≤ 256 := by
  rcases h with ⟨_, _, rfl, _⟩ | ⟨_, _, _, rfl, _⟩ | ⟨h1, _, _, h⟩
  · simp
  · simp
  · unfold mayTk at h1
    rw [Bool.and_eq_true, Bool.and_eq_true, decide_eq_true_iff, decide_eq_true_iff, decide_eq_true_iff] at h1
    exact (h.right h1.1 h1.2.1).1.len256

set_option maxRecDepth 100000 in
set_option maxHeartbeats 4000000 in
theorem buddyTakes_walk (r t : Int) (A : Option Addr) (m c : Nat) (l : List Blk) (w : World) (hT : Tab w) (h : RdS w A m l) :
    Calls Tryd.prog 4 #[.int .i64 r, .int .i64 t, .slice A m c] w (Holds w) := by
  by_cases hm : 600 < m
  · go_enter Tryd.func4, Tryd.ntmps4
    go_wp2
    go_ret
    exact ⟨rfl, Below.refl _ _⟩
  have t0 : decide (600 < (m : Int)) = false := by simp; omega
  have hlen := Lib.hid h.len
  have S1 := refOwn_any A m c l w h (by omega)
  have HR := Lib.hid h
  have HT := Lib.hid hT
  have hng := noGuard
  clear h hT
  go_enter Tryd.func4, Tryd.ntmps4
  go_upto_region 4 with (go_at_call 10; refine S1.mono ?_; rintro e w1 ⟨v1, rfl, o1, B1⟩; obtain ⟨A1, c1, rfl, r1⟩ := o1.rdn hlen.out)
  have S2 := take_any r A m c l t w1 (HR.out.below B1) (by omega) (HT.out.below B1)
  clear S1 o1
  go_upto_region 5 with (go_at_call 21; refine S2.mono ?_; rintro e w2 ⟨⟨x, o⟩, ms, er, v2, he, res, o2, b2⟩; unfold bval enc2 at he; simp only at he; subst he; obtain ⟨A2, c2, rfl, r2⟩ := o2.rdn (n := ms.length) rfl)
  have hA := (Below.refl w2.heap.size w2).alloc (Nat.le_refl _) (.cells #[.int .i64 x, .int .i64 o] 32)
  have X2 := Box2.new w2 (x, o) 32
  have ba := b2.trans (hA.mono b2.size)
  have Ba := B1.trans (ba.mono B1.size)
  have r1a := r1.below ba
  have r2a := r2.below hA
  have o2a := o2.below hA
  have hw1 : w.heap.size ≤ w1.heap.size := B1.size
  clear S2 hA b2 o2 r2
  obtain ⟨k2, hk2⟩ : ∃ k, k = w2.heap.size := ⟨_, rfl⟩
  rw [← hk2] at X2 ⊢
  clear hk2
  generalize w2.alloc (.cells #[.int .i64 x, .int .i64 o] 32) = wa at X2 ba Ba r1a r2a o2a ⊢
  have S3 := refTake_any r A1 m c1 l t wa r1a (by omega)
  go_upto_region 6 with (go_at_call 22; refine S3.mono ?_; rintro e w3 hP; obtain ⟨v3, he, o3, b3⟩ := hP.is res; unfold bval enc2 at he; simp only at he; subst he; obtain ⟨A3, c3, rfl, r3⟩ := o3.rdn (n := ms.length) rfl)
  have hA := (Below.refl w3.heap.size w3).alloc (Nat.le_refl _) (.cells #[.int .i64 x, .int .i64 o] 32)
  have X3 := Box2.new w3 (x, o) 32
  have bb := b3.trans (hA.mono b3.size)
  have b1b := ba.trans (bb.mono ba.size)
  have Bb := Ba.trans (bb.mono Ba.size)
  have r2b := r2a.below bb
  have r3b := r3.below hA
  have o2b := o2a.below bb
  have X2b := X2.below bb
  clear S3 hA o3 r3 o2a r2a X2
  obtain ⟨k3, hk3⟩ : ∃ k, k = w3.heap.size := ⟨_, rfl⟩
  rw [← hk3] at X3 ⊢
  clear hk3
  generalize w3.alloc (.cells #[.int .i64 x, .int .i64 o] 32) = wb at X3 bb b1b Bb r2b r3b o2b X2b ⊢
  have i0 := X2b.c0
  have i1 := X2b.c1
  have j0 := X3.c0
  have j1 := X3.c1
  simp only at i0 i1 j0 j1
  have q := run_eql_blk x o x o
  rw [(sameB_iff _ _).2 rfl] at q
  have hl2 := res.len
  have S4 := refSame_any A2 A3 ms.length c2 ms.length c3 ms ms wb r2b r3b (by omega)
  rw [decide_eq_true rfl] at S4
  obtain ⟨n2, hn2⟩ : ∃ n, n = ms.length := ⟨_, rfl⟩
  rw [← hn2] at S4 o2b ⊢
  have Hn2 := Lib.hid hn2
  have hn2l : n2 ≤ 256 := by omega
  clear hn2 r2b r3b
  go_upto_region 8 with (go_at_call 15; refine S4.mono ?_; rintro e w4 ⟨rfl, g4⟩)
  have B4 := Bb.trans (g4.below.mono Bb.size)
  have o4 := o2b.below g4.below
  have b14 := b1b.trans (g4.below.mono b1b.size)
  clear S4 i0 i1 j0 j1 q
  go_loopw [15] (WipeRel w4 w1.heap.size (.slice A2 n2 c2) n2) (fun i _ => n2 - (intOf i).toNat)
  case atStart => exact wipe_start o4 Hn2.out.symm
  case round =>
    obtain ⟨k, cs, rfl, hk, ho, hG⟩ := hrel
    by_cases hlt : k < n2
    · obtain ⟨g, cap, hv, hbg, hgl⟩ := ho.form (by omega)
      injection hv with e1 e2 e3
      subst e1
      subst e3
      obtain ⟨⟨u, hu⟩, hf⟩ := wipe_cell hlt ho
      have hki : (k : Int) < (n2 : Int) := by omega
      have HO := Lib.hid ho
      have HG := Lib.hid hG
      clear ho hG
      go_wp2
      go_roundw
      case rel => exact ⟨k + 1, _, by go_num, hlt, (World.ownsRow.stored HO.out (k * 2) _).1, grown_trans HG.out (World.ownsRow.stored HO.out (k * 2) _).2⟩
      case measure => simp [intOf]; omega
    · obtain rfl : k = n2 := by omega
      have BW : Below w1.heap.size w1 wr := b14.grown hG b14.size fun j hj => by have := World.ownsRow.lt ho j hj; omega
      have BF := B1.trans (BW.mono hw1)
      have S5 := takes_law wr (HT.out.below BF)
      have S6 := fun W (bb : Below wr.heap.size wr W) => refSame_any A A1 m c m c1 l l W (HR.out.below (BF.trans (bb.mono BF.size))) (r1.below (BW.trans (bb.mono BW.size))) (by omega)
      rw [decide_eq_true rfl] at S6
      clear ho hG
      go_wp2_with (first | (go_at_call 23; refine S5.mono ?_; rintro e w5 ⟨rfl, b5⟩) | (go_at_call 15; refine (S6 _ b5).mono ?_; rintro e w6 ⟨rfl, g6⟩))
      go_ret
      exact ⟨by first | (simp; done) | (simp; omega), BF.trans ((b5.trans (g6.below.mono b5.size)).mono BF.size)⟩
end Go.Proofs.YthiijnanfiddpaaDoor

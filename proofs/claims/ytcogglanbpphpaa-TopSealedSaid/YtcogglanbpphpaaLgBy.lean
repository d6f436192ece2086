/-
  Package redo: numbers as bytes, whether all bytes are 0, a sector's bytes: contracts.
-/
import Derived.Test.YtcogglanbpphpaaLgSm
namespace Go.Proofs.Ytcogglanbpphpaa
open Go.RowKit

def NumRel (l : List Nat) (w : World) (v i : Value) (wr : World) : Prop :=
  ∃ k : Nat, k ≤ l.length ∧ i = .int .i64 (k : Int) ∧ Own 5 wr w.heap.size v (nbs (l.take k)) ∧ Below w.heap.size w wr
set_option maxHeartbeats 1000000 in
theorem numbers_any {A : Option Addr} {n c : Nat} {l : List Nat} {w : World} (h : RdV w A n (nts l)) (hn : n ≤ 10) (hx : ∀ x ∈ l, x ≤ 2147483647) :
    Calls Try.prog 52 #[.slice A n c] w (Gives w (nbs l)) := by
  have hlen : l.length = n := by rw [← nts_length]; exact h.len
  have HL := Lib.hid h
  have Hlen := Lib.hid hlen
  have HX := Lib.hid hx
  clear h hlen hx
  go_enter Try.func52, Try.ntmps52
  go_wp2
  go_loopw [3, 8] (NumRel l w) (fun _ i _ => n - (Go.RowKit.intOf i).toNat)
  case atStart => exact ⟨0, Nat.zero_le _, rfl, Own.nil, Below.refl _ _⟩
  case round =>
    obtain ⟨k, hk, rfl, hown, hb⟩ := hrel
    by_cases hlt : k < n
    · obtain ⟨b, off, x, rfl, hbb, hx, hcell⟩ := HL.out.cell hlt
      obtain ⟨y, hy, rfl⟩ := nts_get hx
      have hy1 := HX.out y (List.mem_of_getElem? hy)
      have e1 : nbs (l.take k) ++ be 4 y = nbs (l.take (k + 1)) := by
        rw [List.take_add_one, hy, nbs_append]
        simp [nbs_one]
      have E1 := Lib.hid e1
      have hc2 : wr.cell? ⟨b, off + k, none⟩ = some (.int .i64 (y : Int)) := (hb.cell (p := ⟨b, off + k, none⟩) hbb).trans hcell
      obtain ⟨A1, c1, rfl, hc1, hm1, hr1⟩ := hown.shape
      have hll : (nbs (l.take k)).length ≤ 4000 := by
        rw [nbs_length, List.length_take, Hlen.out]
        omega
      have K := fun W (hB : Below wr.heap.size wr W) => putNumber_yes A1 (nbs (l.take k)).length c1 (nbs (l.take k)) (y : Int) W (hr1.below hB) (by omega) (by omega) (by omega)
      have K1 := Lib.hid (K wr (Below.refl _ _))
      have HB := Lib.hid hb
      have HX2 := Lib.hid hx
      have HY := Lib.hid hy
      have HK := Lib.hid hk
      obtain ⟨M, hM⟩ : ∃ M, M = (nbs (l.take k) ++ be 4 y).length := ⟨_, rfl⟩
      have HM := Lib.hid hM
      clear hM
      clear e1 hx hy hcell hown hr1 K hb hk
      generalize (nbs (l.take k)).length = m at hc1 hll K1
      generalize nbs (l.take k) = bs at E1 K1 HM
      go_wp2_with (first | (go_at_call 69; refine K1.out.mono ?_; rintro e w1 ⟨v1, rfl, hown1, hb1⟩; rw [Int.toNat_natCast] at hown1; obtain ⟨A2, c2, rfl, hc2', hm2, hr2⟩ := hown1.shapeN HM.out.symm) | (go_at_call 50; refine (need_yes _ _ _ _).mono ?_; rintro e w2 ⟨rfl, rfl⟩))
      rw [E1.out] at hown1
      go_roundw
      case rel => exact ⟨k + 1, by rw [Hlen.out]; exact hlt, by go_num, hown1.mono HB.out.size, HB.out.trans (hb1.mono HB.out.size)⟩
      case measure => simp [Go.RowKit.intOf]; omega
    · obtain rfl : k = n := by have := Hlen.out; omega
      have e1 : l.take k = l := List.take_of_length_le (by rw [Hlen.out]; exact Nat.le_refl _)
      rw [e1] at hown
      clear e1
      go_wp2
      go_ret
      exact ⟨_, rfl, hown, hb⟩
set_option maxHeartbeats 1000000 in
theorem blank_any {A : Option Addr} {n c : Nat} {l : List UInt8} {w : World} (h : Rd w A n l) (hn : n ≤ 1000000) :
    Calls Try.prog 60 #[.slice A n c] w fun e w' => e = .returned (.bool (allz l)) ∧ w' = w := by
  have HL := Lib.hid h
  have Hlen := Lib.hid h.len
  clear h
  go_enter Try.func60, Try.ntmps60
  go_wp2
  go_loop [7] (fun i => ∃ k : Nat, k ≤ n ∧ i = .int .i64 (k : Int) ∧ allz (l.take k) = true) (fun i => n - (Go.RowKit.intOf i).toNat)
  case atStart => exact ⟨0, Nat.zero_le _, rfl, rfl⟩
  case round =>
    obtain ⟨k, hk, rfl, hz⟩ := hrel
    have HZ := Lib.hid hz
    clear hz
    by_cases hlt : k < n
    · obtain ⟨b, off, x, rfl, hbb, hx, hcell⟩ := HL.out.cell hlt
      have HX := Lib.hid hx
      clear hx
      by_cases h0 : x = 0
      · subst h0
        have e1 : allz (l.take (k + 1)) = true := by
          have := HZ.out
          rw [List.take_add_one, HX.out, allz, List.all_append]
          unfold allz at this
          rw [this]
          rfl
        have E1 := Lib.hid e1
        have e0 : ((0 : UInt8).toNat : Int) = 0 := rfl
        rw [e0] at hcell
        clear e1 e0
        go_wp2
        refine ⟨⟨k + 1, hlt, by go_num, E1.out⟩, by simp [Go.RowKit.intOf]; omega⟩
      · have hne : ¬ (x.toNat : Int) = 0 := fun e => h0 (by
          have : x.toNat = 0 := by omega
          exact UInt8.toNat_inj.1 this)
        have e1 : allz l = false := by
          rw [allz, List.all_eq_false]
          exact ⟨x, List.mem_of_getElem? HX.out, by simpa using h0⟩
        have E1 := Lib.hid e1
        generalize (x.toNat : Int) = y at hcell hne
        clear e1
        go_wp2
        go_ret
        exact ⟨by rw [E1.out]; rfl, rfl⟩
    · obtain rfl : k = n := by omega
      have e1 : l.take k = l := List.take_of_length_le (by rw [Hlen.out]; exact Nat.le_refl _)
      have e2 : allz l = true := by
        have := HZ.out
        rwa [e1] at this
      have E2 := Lib.hid e2
      clear e1 e2
      go_wp2
      go_ret
      exact ⟨by rw [E2.out]; rfl, rfl⟩
theorem zcells_bvs (N : Nat) : zcells N = bvs (List.replicate N 0) := by simp [zcells, bvs, bv]
theorem bvs_pad (N : Nat) (l : List UInt8) : bvs (pad N l) = bvs l ++ (zcells N).drop l.length := by
  unfold pad
  rw [bvs_append, zcells_bvs]
  congr 1
  simp [bvs]
/-- copy(padded, b) into a new row of bytes 0. -/
theorem run_copy_pad {P : Program} {W : World} (dT sT ty U : TypeId) (hu : P.underlying dT = some (.slice U)) (hinfo : (P.info? U).map (fun i => (i.zero, i.size, i.bytes)) = some (some (.int .u8 0), 1, 1)) {N : Nat} {A : Option Addr} {m c : Nat} {l : List UInt8} (h : Rd W A m l) (hm : m ≤ N) :
    (Builtin.copy_ #[dT, sT] ty #[.slice (some ⟨W.heap.size, 0, none⟩) N N, .slice A m c]).run P (W.alloc (.cells (zcells N).toArray U)) = .ok (.int .i64 (m : Int)) (W.alloc (.cells (bvs (pad N l)).toArray U)) := by
  have hl := h.len
  obtain ⟨i0, hi, hz0, hz1, hz2⟩ := info_parts hinfo
  have hsz : (P.info? U).map (·.size) = some 1 := by rw [hi]; simp [hz1]
  by_cases h0 : m = 0
  · subst h0
    obtain rfl : l = [] := List.eq_nil_of_length_eq_zero hl
    rw [bvs_pad]
    exact run_copy_none (P := P) _ dT sT ty U _ _ N N 0 c hu hsz rfl
  · obtain ⟨b, off, rfl, hb, hcell⟩ := h.at_ (by omega)
    have hrun := run_copy_row (P := P) (W.alloc (.cells (zcells N).toArray U)) dT sT ty U W.heap.size 0 N N ⟨b, off, none⟩ m c (zcells N).toArray U (bvs l) hu hsz (heap_alloc_new W _)
      (by rw [bvs_length, hl]; exact (Nat.min_eq_left hm).symm) (fun j v hj => by
        obtain ⟨x, hx, rfl⟩ := bvs_get hj
        rw [add_plain, World.cell?_alloc_lt W _ _ hb]
        exact hcell j x hx) (by rw [bvs_length, hl, List.size_toArray, zcells_length]; omega) (bvs_one _)
    rw [hrun, bvs_length, hl]
    rw [World.setRow_alloc_new, bvs_pad, hl]
    simp [goInt]
end Go.Proofs.Ytcogglanbpphpaa

/-
  What the statements' own helpers for lent bytes do (tumuluskeep.Lent, tumuluskeep.Kept): contracts.
  GetOp, and the document's own answers for operations: contracts.
  The statement on operations, and what it says at one of them.
-/
import Derived.Test.YtlnmmklpccppmaaGreatDoorSg1
import Derived.Test.YtlnmmklpccppmaaGreatDoorSg36
import Derived.Test.YtlnmmklpccppmaaGreatDoorSg34
namespace Go.Proofs.YtlnmmklpccppmaaGreatDoor
open Go.RowKit
/-- The room that is lent behind bytes. -/
def pad (k : Nat) : List UInt8 := List.replicate k 157
theorem pad_length (k : Nat) : (pad k).length = k := by simp [pad]
theorem pad_succ (k : Nat) : pad (k + 1) = pad k ++ [157] := by simp [pad, List.replicate_succ']
def LentPost (w : World) (b : List UInt8) (e : Ending) (w' : World) : Prop :=
  ∃ A c, e = .returned (.slice A b.length c) ∧ b.length + 6 ≤ c ∧ c ≤ maxLen ∧ Rd w' A (b.length + 6) (b ++ pad 6) ∧ Below w.heap.size w w'
def LentRel (b : List UInt8) (w : World) (v i : Value) (wr : World) : Prop :=
  ∃ k : Nat, k ≤ 6 ∧ i = .int .i64 k ∧ Own 5 wr w.heap.size v (b ++ pad k) ∧ Below w.heap.size w wr
set_option maxRecDepth 20000 in
set_option maxHeartbeats 1000000 in
theorem lent_any (A : Option Addr) (n c : Nat) (b : List UInt8) (w : World) (hb : Rd w A n b) (hn : n ≤ 70368744177664) :
    Calls Tryz.prog 25 #[.slice A n c] w (LentPost w b) := by
  obtain ⟨v1, w1, hap, hown1, hg1, _⟩ := run_app (P := Tryz.prog) w.heap.size 29 29 5 Tryz.underlying29 Tryz.infoU8 (.slice none 0 0) [] Own.nil A n c b hb (by simp; omega) (Nat.le_refl _)
  rw [List.nil_append] at hown1
  have hb1 := below_app (Below.refl w.heap.size w) (Own.nil (U := 5)) hg1 (Nat.le_refl _)
  have hl := hb.len
  go_enter Tryz.func25, Tryz.ntmps25
  go_wp2_with (at_builtin; refine wpList_append_run hap rfl _ _ rfl rfl rfl rfl ?_)
  clear hap hg1
  go_loopw [3, 4] (LentRel b w) (fun _ i _ => 6 - (intOf i).toNat)
  case atStart => exact ⟨0, by omega, rfl, by simpa [pad] using hown1, hb1⟩
  case round =>
    clear hown1 hb1
    obtain ⟨k, hk, rfl, hown, hbw⟩ := hrel
    by_cases hlt : k < 6
    · have hsz := hbw.size
      have hl2 : (b ++ pad k).length ≤ n + 6 := by rw [List.length_append, hl, pad_length]; omega
      obtain ⟨v2, w2, hap, hown2, hb2⟩ := run_app_one (P := Tryz.prog) w.heap.size 29 29 5 Tryz.underlying29 Tryz.infoU8 _ _ hown (.int .u8 157) 157 rfl (by omega) hsz
      rw [List.append_assoc, ← pad_succ] at hown2
      clear hl2 hl
      go_wp2_with (at_builtin; refine wpList_append_run hap rfl _ _ rfl rfl rfl rfl ?_)
      go_roundw
      case rel => exact ⟨k + 1, by omega, by go_num, hown2, hbw.trans hb2⟩
      case measure => simp [intOf]; omega
    · obtain rfl : k = 6 := by omega
      obtain ⟨A', c', rfl, hlc, hcm, hrd⟩ := hown.shape
      have hl2 : (b ++ pad 6).length = n + 6 := by rw [List.length_append, hl, pad_length]
      rw [hl2] at hlc hrd
      unfold maxLen at hcm
      go_wp2
      go_ret
      exact ⟨A', c', by rw [hl]; rfl, by rw [hl]; exact hlc, by unfold maxLen; exact hcm, by rw [hl]; exact hrd, hbw⟩
set_option maxRecDepth 20000 in
set_option maxHeartbeats 1000000 in
theorem kept_yes (A A2 : Option Addr) (n c c2 : Nat) (b : List UInt8) (w : World) (ho : Rd w A (n + 6) (b ++ pad 6)) (hc : n + 6 ≤ c) (hm : c ≤ maxLen) (hb : Rd w A2 n b) :
    Calls Tryz.prog 32 #[.slice A n c, .slice A2 n c2] w fun e w' => e = .returned (.bool true) ∧ w = w' := by
  unfold maxLen at hm
  have hl := hb.len
  have ho' : Rd w A n b := by
    have h := ho.take (k := n) (by omega)
    rw [List.take_append_of_le_length (by omega), List.take_of_length_le (by omega)] at h
    exact h
  have k1 := ho'.conv (P := Tryz.prog) c 29 5 9 Tryz.underlying29 Tryz.underlying5 Tryz.underlying9
  have k2 := hb.conv (P := Tryz.prog) c2 29 5 9 Tryz.underlying29 Tryz.underlying5 Tryz.underlying9
  have Hl := Lib.hid hl
  clear hl
  obtain ⟨bb, off, rfl, _, hcell⟩ := ho.at_ (by omega)
  go_enter Tryz.func32, Tryz.ntmps32
  go_wp2_with fail
  clear k1 k2
  go_loop [6] (fun i => ∃ k : Nat, k ≤ 6 ∧ i = .int .i64 ((n + k : Nat) : Int)) (fun i => (n + 6 : Nat) - (intOf i).toNat)
  case atStart => exact ⟨0, by omega, rfl⟩
  case round =>
    obtain ⟨k, hk, rfl⟩ := hrel
    by_cases hlt : k < 6
    · have hx : w.cell? ⟨bb, off + (n + k), none⟩ = some (.int .u8 157) := by
        have := hcell (n + k) 157 (by
          rw [List.getElem?_append_right (by rw [Hl.out]; omega), Hl.out, show n + k - n = k from by omega]
          unfold pad
          rw [List.getElem?_replicate, if_pos hlt])
        exact this
      clear hcell
      go_wp2
      refine ⟨⟨k + 1, by omega, ?_⟩, by simp [intOf]; omega⟩
      rw [show (n : Int) + (k : Int) + 1 = ((n + (k + 1) : Nat) : Int) from by omega]
    · go_wp2
      go_ret
      exact ⟨rfl, rfl⟩
end Go.Proofs.YtlnmmklpccppmaaGreatDoor
namespace Go.Proofs.YtlnmmklpccppmaaGreatDoor
open Go.RowKit
/-- What bytes are as an operation, and the error. -/
def oRes (b : List UInt8) : List Int × Int := match prep pint 7 b with | some (vs, []) => (vs, 0) | _ => ([0, 0, 0, 0, 0, 0, 0], 60)
theorem oRes_some {b : List UInt8} {vs : List Int} (h : prep pint 7 b = some (vs, [])) : oRes b = (vs, 0) := by unfold oRes; rw [h]
theorem oRes_len (b : List UInt8) : (oRes b).1.length = 7 := by
  unfold oRes
  split
  · rename_i h; exact prep_len h
  · rfl
/-- What GetOp answers. -/
def GotO (w : World) (b : List UInt8) (e : Ending) (w' : World) : Prop := Below w.heap.size w w' ∧ e = .returned (.tuple #[.agg (intvs (oRes b).1).toArray, .int .i64 (oRes b).2])
theorem WholeO.got {w w' : World} {b : List UInt8} {e : Ending} (h : WholeO w b e w') : GotO w b e w' := by
  refine ⟨h.1, ?_⟩
  have h2 := h.2
  unfold oRes
  split at h2
  · rename_i hq; rw [hq]; exact h2
  · rename_i hq
    rw [h2]
    split
    · rename_i vs hq2; exact absurd hq2 (hq vs)
    · rfl
set_option maxHeartbeats 1000000 in
theorem getOp_any (A : Option Addr) (n c : Nat) (b : List UInt8) (w : World) (hb : Rd w A n b) (hn : n ≤ 70368744177664) :
    Calls Tryz.prog 26 #[.slice A n c] w (GotO w b) := by
  have hlen := oRes_len b
  go_enter Tryz.func26, Tryz.ntmps26
  go_wp2_with fail
  have KR := Whole.new w #[.int .i64 0, .int .i64 0, .int .i64 0, .int .i64 0, .int .i64 0, .int .i64 0, .int .i64 0] 50
  have B0 := (Below.refl w.heap.size w).alloc (Nat.le_refl _) (.cells #[.int .i64 0, .int .i64 0, .int .i64 0, .int .i64 0, .int .i64 0, .int .i64 0, .int .i64 0] 50)
  generalize w.alloc (.cells #[.int .i64 0, .int .i64 0, .int .i64 0, .int .i64 0, .int .i64 0, .int .i64 0, .int .i64 0] 50) = W at KR B0 ⊢
  refine ((wholeO_any A n c b W (hb.below B0) hn).mono fun _ _ h => h.got).mono ?_
  rintro e w1 ⟨hB, he⟩
  have KR1 := KR.below hB
  have B1 := B0.trans (hB.mono B0.size)
  rcases hx : oRes b with ⟨l, er⟩
  rw [hx] at hlen he
  have Hr := Lib.hid hx
  clear hx
  simp only at hlen he
  match l, hlen with
  | [v0, v1, v2, v3, v4, v5, v6], _ =>
    subst he
    have p0 := KR1.cell 0
    have p1 := KR1.cell 1
    have p2 := KR1.cell 2
    have p3 := KR1.cell 3
    have p4 := KR1.cell 4
    have p5 := KR1.cell 5
    have p6 := KR1.cell 6
    have z0 := KR1.free 0
    have z1 := KR1.free 1
    have z2 := KR1.free 2
    have z3 := KR1.free 3
    have z4 := KR1.free 4
    have z5 := KR1.free 5
    have z6 := KR1.free 6
    have K7 := (((((((KR1.set 0 (.int .i64 v0)).set 1 (.int .i64 v1)).set 2 (.int .i64 v2)).set 3 (.int .i64 v3)).set 4 (.int .i64 v4)).set 5 (.int .i64 v5)).set 6 (.int .i64 v6))
    have G7 := grown_sets7 (wr := w1) (b := w.heap.size) (.int .i64 v0) (.int .i64 v1) (.int .i64 v2) (.int .i64 v3) (.int .i64 v4) (.int .i64 v5) (.int .i64 v6)
    have H7 := Lib.hid (And.intro K7 (below_grown B1 G7 B1.size (Nat.le_refl _)))
    clear K7 G7 KR KR1 B0 B1 hB
    dsimp only [intvs, List.map_cons, List.map_nil]
    go_wp2
    refine bodyPost_ret (results_c2 rfl _ _ _ _ rfl H7.out.1 Tryz.underlying50 (by kernel_rfl)) rfl ?_
    exact ⟨H7.out.2, by rw [Hr.out]; rfl⟩
theorem enc_len {n : Nat} {b : List UInt8} {vs : List Int} {r : List UInt8} (h : prep pint n b = some (vs, r)) : b.length = 8 * n + r.length := by
  obtain ⟨d, e⟩ := (prep_codec pint_codec n).sound _ _ _ h
  rw [e, List.length_append, flat_len encI_length, d.1]
theorem pint_of_len {l : List UInt8} (h : 8 ≤ l.length) : ∃ x, pint l = some (x, l.drop 8) ∧ (rint l).1 = x := by
  refine ⟨_, ?_, rfl⟩
  have h4 : rint l = (wrap64 (ofbe (l.take 8)), 8, 0) := by rw [rint, if_neg (by omega)]
  unfold pint
  rw [h4]
  rfl
/-- So far: the first k are read. -/
def GetRel (w : World) (b : List UInt8) (i : Value) (wr : World) : Prop :=
  ∃ (k : Nat) (vs : List Int), k ≤ 7 ∧ i = .int .i64 (k : Int) ∧ prep pint k b = some (vs, b.drop (8 * k)) ∧ Whole wr (w.heap.size + 1) 96 (intvs vs ++ reps (7 - k) (.int .i64 0)) ∧ Whole wr w.heap.size 50 [.int .i64 0, .int .i64 0, .int .i64 0, .int .i64 0, .int .i64 0, .int .i64 0, .int .i64 0] ∧ Below w.heap.size w wr
set_option maxHeartbeats 2000000 in
theorem refGetOp_any (A : Option Addr) (n c : Nat) (b : List UInt8) (w : World) (hb : Rd w A n b) (hnc : n ≤ c) :
    Calls Tryz.prog 27 #[.slice A n c] w (GotO w b) := by
  have hlen := hb.len
  by_cases h56 : n = 56
  · subst h56
    have HB := Lib.hid hb
    clear hb
    go_enter Tryz.func27, Tryz.ntmps27
    go_wp2
    have KR := (Whole.new w #[.int .i64 0, .int .i64 0, .int .i64 0, .int .i64 0, .int .i64 0, .int .i64 0, .int .i64 0] 50).alloc (.cells #[.int .i64 0, .int .i64 0, .int .i64 0, .int .i64 0, .int .i64 0, .int .i64 0, .int .i64 0] 96)
    have KL := Whole.new (w.alloc (.cells #[.int .i64 0, .int .i64 0, .int .i64 0, .int .i64 0, .int .i64 0, .int .i64 0, .int .i64 0] 50)) #[.int .i64 0, .int .i64 0, .int .i64 0, .int .i64 0, .int .i64 0, .int .i64 0, .int .i64 0] 96
    rw [show (w.alloc (.cells #[.int .i64 0, .int .i64 0, .int .i64 0, .int .i64 0, .int .i64 0, .int .i64 0, .int .i64 0] 50)).heap.size = w.heap.size + 1 by simp] at KL
    have B0 := ((Below.refl w.heap.size w).alloc (Nat.le_refl _) (.cells #[.int .i64 0, .int .i64 0, .int .i64 0, .int .i64 0, .int .i64 0, .int .i64 0, .int .i64 0] 50)).alloc (by simp) (.cells #[.int .i64 0, .int .i64 0, .int .i64 0, .int .i64 0, .int .i64 0, .int .i64 0, .int .i64 0] 96)
    generalize (w.alloc (.cells #[.int .i64 0, .int .i64 0, .int .i64 0, .int .i64 0, .int .i64 0, .int .i64 0, .int .i64 0] 50)).alloc (.cells #[.int .i64 0, .int .i64 0, .int .i64 0, .int .i64 0, .int .i64 0, .int .i64 0, .int .i64 0] 96) = W at KR KL B0 ⊢
    have HL := Lib.hid hlen
    have HC := Lib.hid hnc
    clear hlen
    go_loopw [5] (GetRel w b) (fun i _ => 7 - (intOf i).toNat)
    case atStart => exact ⟨0, [], by omega, rfl, rfl, KL, KR, B0⟩
    case round =>
      obtain ⟨k, vs, hk, rfl, hpr, hw, hres, hbw⟩ := hrel
      have hln := prep_len hpr
      have Hw := Lib.hid hw
      have Hres := Lib.hid hres
      have Hpr := Lib.hid hpr
      have Hbw := Lib.hid hbw
      clear hw hres hpr hbw KR KL B0
      by_cases hlt : k < 7
      · have hki : (k : Int) < 7 := by omega
        obtain ⟨A4, hsl, hrl⟩ := run_cut (P := Tryz.prog) Tryz.underlying29 Tryz.infoU8 A 56 c (8 * k) (by omega) hnc
        have h8 : ((8 * k : Nat) : Int) = 8 * (k : Int) := by omega
        rw [h8] at hsl
        have R4 := hrl wr b (HB.out.below Hbw.out)
        obtain ⟨x, hx1, hx2⟩ := pint_of_len (l := b.drop (8 * k)) (by rw [List.length_drop]; have := HL.out; omega)
        have Hp1 := Lib.hid (prep_step Hpr.out hx1)
        have Hx2 := Lib.hid hx2
        generalize 56 - 8 * k = n4 at *
        generalize c - 8 * k = c4 at *
        clear hx1 hx2 h8 hrl
        go_wp2_with fail
        refine (refReadInt_any A4 n4 c4 _ wr R4).mono ?_
        rintro e w3 ⟨rfl, hb3⟩
        rw [Hx2.out]
        have W3 := Hw.out.below hb3
        have Q3 := Lib.hid (Hres.out.below hb3)
        have hk1 : 7 - k = (7 - (k + 1)) + 1 := by omega
        rw [hk1] at W3
        have c0 : w3.cell? ⟨w.heap.size + 1, k, none⟩ = some (.int .i64 0) := by
          have := W3.cell k
          rw [List.getElem?_append_right (by rw [intvs_length]; omega), intvs_length, hln, Nat.sub_self] at this
          exact this
        have z0 := W3.free k
        have g4 := grown_set w3 (w.heap.size + 1) k (.int .i64 x)
        have W4 := Lib.hid (W3.setAt (u := .int .i64 x) (k := k) (by rw [intvs_length]; exact hln))
        have Q4 := Lib.hid (Q3.out.grown g4 (by omega))
        have B3 := Hbw.out.trans (hb3.mono Hbw.out.size)
        have B4 := Lib.hid (below_grown B3 g4 B3.size (Nat.le_succ _))
        generalize (rint (List.drop (8 * k) b)).2.1 = kk at *
        generalize (rint (List.drop (8 * k) b)).2.2 = er at *
        clear hk1 W3 hb3 hln g4 hsl R4 B3
        go_wp2
        go_roundw
        case rel =>
          refine ⟨k + 1, vs ++ [x], by omega, by go_num, ?_, ?_, Q4.out, B4.out⟩
          · have := Hp1.out
            rw [List.drop_drop, show 8 * k + 8 = 8 * (k + 1) by omega] at this
            exact this
          · have := W4.out
            unfold intvs at this ⊢
            rw [List.map_append]
            exact this
        case measure => simp [intOf]; omega
      · obtain rfl : k = 7 := by omega
        have Hr := Lib.hid (oRes_some (b := b) (vs := vs) (by rw [Hpr.out, List.drop_of_length_le (by have := HL.out; omega)]))
        match vs, hln with
        | [v0, v1, v2, v3, v4, v5, v6], _ =>
          have o0 : wr.cell? ⟨w.heap.size + 1, 0, none⟩ = some (.int .i64 v0) := Hw.out.cell 0
          have o1 : wr.cell? ⟨w.heap.size + 1, 1, none⟩ = some (.int .i64 v1) := Hw.out.cell 1
          have o2 : wr.cell? ⟨w.heap.size + 1, 2, none⟩ = some (.int .i64 v2) := Hw.out.cell 2
          have o3 : wr.cell? ⟨w.heap.size + 1, 3, none⟩ = some (.int .i64 v3) := Hw.out.cell 3
          have o4 : wr.cell? ⟨w.heap.size + 1, 4, none⟩ = some (.int .i64 v4) := Hw.out.cell 4
          have o5 : wr.cell? ⟨w.heap.size + 1, 5, none⟩ = some (.int .i64 v5) := Hw.out.cell 5
          have o6 : wr.cell? ⟨w.heap.size + 1, 6, none⟩ = some (.int .i64 v6) := Hw.out.cell 6
          have p0 := Hres.out.cell 0
          have p1 := Hres.out.cell 1
          have p2 := Hres.out.cell 2
          have p3 := Hres.out.cell 3
          have p4 := Hres.out.cell 4
          have p5 := Hres.out.cell 5
          have p6 := Hres.out.cell 6
          have z0 := Hres.out.free 0
          have z1 := Hres.out.free 1
          have z2 := Hres.out.free 2
          have z3 := Hres.out.free 3
          have z4 := Hres.out.free 4
          have z5 := Hres.out.free 5
          have z6 := Hres.out.free 6
          have K7 := (((((((Hres.out.set 0 (.int .i64 v0)).set 1 (.int .i64 v1)).set 2 (.int .i64 v2)).set 3 (.int .i64 v3)).set 4 (.int .i64 v4)).set 5 (.int .i64 v5)).set 6 (.int .i64 v6))
          have G7 := grown_sets7 (wr := wr) (b := w.heap.size) (.int .i64 v0) (.int .i64 v1) (.int .i64 v2) (.int .i64 v3) (.int .i64 v4) (.int .i64 v5) (.int .i64 v6)
          have H7 := Lib.hid (And.intro K7 (below_grown Hbw.out G7 Hbw.out.size (Nat.le_refl _)))
          clear K7 G7
          go_wp2
          refine bodyPost_ret (results_c2 rfl _ _ _ _ rfl H7.out.1 Tryz.underlying50 (by kernel_rfl)) rfl ?_
          exact ⟨H7.out.2, by rw [Hr.out]; rfl⟩
  · have hni : ((n : Int) != 56) = true := by simp; omega
    have Hr := Lib.hid (show oRes b = ([0, 0, 0, 0, 0, 0, 0], 60) from by
      unfold oRes
      split
      · rename_i vs hq
        have := enc_len hq
        simp only [List.length_nil] at this
        omega
      · rfl)
    clear hb hlen h56
    go_enter Tryz.func27, Tryz.ntmps27
    go_wp2
    refine bodyPost_ret (results_c2 rfl _ _ _ _ rfl (Whole.new w #[.int .i64 0, .int .i64 0, .int .i64 0, .int .i64 0, .int .i64 0, .int .i64 0, .int .i64 0] 50) Tryz.underlying50 (by kernel_rfl)) rfl ?_
    exact ⟨(Below.refl _ _).alloc (Nat.le_refl _) _, by rw [Hr.out]; rfl⟩
end Go.Proofs.YtlnmmklpccppmaaGreatDoor
namespace Go.Proofs.YtlnmmklpccppmaaGreatDoor
open Go.RowKit
theorem oRes_none {b : List UInt8} (h : b.length ≠ 56) : oRes b = ([0, 0, 0, 0, 0, 0, 0], 60) := by
  unfold oRes
  split
  · rename_i vs hq
    have := enc_len hq
    simp only [List.length_nil] at this
    omega
  · rfl
theorem oRes_put {ns : List Int} (h7 : ns.length = 7) (hi : ∀ x ∈ ns, IsInt x) : oRes (ns.flatMap encI) = (ns, 0) := by
  have := (prep_codec pint_codec 7).full ns [] ⟨h7, hi⟩
  rw [List.append_nil] at this
  exact oRes_some this
def oneOp : List UInt8 := [6, 0, 0, 0, 0, -1, 0].flatMap encI
theorem oneOp_len : oneOp.length = 56 := by unfold oneOp; rw [flat_len encI_length]; rfl
theorem oneOp_7 : oneOp[7]? = some 6 := by decide +kernel
theorem oneOp_40 : oneOp[40]? = some 255 := by decide +kernel
theorem oneOp_res : oRes oneOp = ([6, 0, 0, 0, 0, -1, 0], 0) := oRes_put rfl (by intro x hx; simp at hx; unfold IsInt; omega)
set_option maxHeartbeats 1000000 in
theorem ops_holds (w : World) : Calls Tryz.prog 31 #[] w (Holds w) := by
  obtain ⟨z, hz⟩ : ∃ z : Nat, z = 55 := ⟨_, rfl⟩
  have hmk := run_make_bytes (P := Tryz.prog) Tryz.underlying29 Tryz.infoU8 z z (by omega) (by omega)
  rw [show ((z : Nat) : Int) = 55 by omega] at hmk
  have Hz := Lib.hid hz
  clear hz
  go_enter Tryz.func31, Tryz.ntmps31
  go_wp2_with fail
  refine (putOp_any [6, 0, 0, 0, 0, -1, 0] rfl w).mono ?_
  rintro e w1 ⟨v, rfl, hown, hb1⟩
  change Own _ w1 w.heap.size v oneOp at hown
  obtain ⟨A, c, rfl, hc, hm, hr1⟩ := hown.shapeN oneOp_len
  go_wp2_with fail
  refine (getOp_any A 56 c oneOp w1 hr1 (by omega)).mono ?_
  rintro e w2 ⟨hb2, he⟩
  rw [oneOp_res] at he
  subst he
  dsimp only [intvs, List.map_cons, List.map_nil]
  go_wp2_with fail
  have KX := (Whole.new w2 #[.int .i64 6, .int .i64 0, .int .i64 0, .int .i64 0, .int .i64 0, .int .i64 (-1), .int .i64 0] 50).alloc (.cells (zcells z).toArray 5)
  have RZ := Rd.lit (w := w2.alloc (.cells #[.int .i64 6, .int .i64 0, .int .i64 0, .int .i64 0, .int .i64 0, .int .i64 (-1), .int .i64 0] 50)) (U := 5) (l := List.replicate z 0) (zcells z).toArray (by simp [zcells, bvs, bv]) (by rw [List.length_replicate, Hz.out]; simp [maxLen])
  rw [show (w2.alloc (.cells #[.int .i64 6, .int .i64 0, .int .i64 0, .int .i64 0, .int .i64 0, .int .i64 (-1), .int .i64 0] 50)).heap.size = w2.heap.size + 1 by simp, List.length_replicate] at RZ
  have BX := ((Below.refl w2.heap.size w2).alloc (Nat.le_refl _) (.cells #[.int .i64 6, .int .i64 0, .int .i64 0, .int .i64 0, .int .i64 0, .int .i64 (-1), .int .i64 0] 50)).alloc (by simp) (.cells (zcells z).toArray 5)
  generalize (w2.alloc (.cells #[.int .i64 6, .int .i64 0, .int .i64 0, .int .i64 0, .int .i64 0, .int .i64 (-1), .int .i64 0] 50)).alloc (.cells (zcells z).toArray 5) = W3 at KX RZ BX ⊢
  refine (getOp_any _ z z _ W3 RZ (by have := Hz.out; omega)).mono ?_
  rintro e w4 ⟨hb4, he⟩
  rw [oRes_none (by rw [List.length_replicate, Hz.out]; decide)] at he
  subst he
  dsimp only [intvs, List.map_cons, List.map_nil]
  have B2 := hb1.trans (hb2.mono hb1.size)
  have B3 := B2.trans (BX.mono B2.size)
  have B4 := B3.trans (hb4.mono B3.size)
  have KX4 := (KX.below hb4).alloc (.cells #[.int .i64 0, .int .i64 0, .int .i64 0, .int .i64 0, .int .i64 0, .int .i64 0, .int .i64 0] 50)
  have R4 := (((hr1.below hb2).below BX).below hb4).alloc (.cells #[.int .i64 0, .int .i64 0, .int .i64 0, .int .i64 0, .int .i64 0, .int .i64 0, .int .i64 0] 50)
  have B5 := B4.alloc B4.size (.cells #[.int .i64 0, .int .i64 0, .int .i64 0, .int .i64 0, .int .i64 0, .int .i64 0, .int .i64 0] 50)
  obtain ⟨b', off, x7, rfl, _, h7, c7⟩ := R4.cell (j := 7) (by omega)
  obtain ⟨_, _, x40, e, _, h40, c40⟩ := R4.cell (j := 40) (by omega)
  injection e with e
  injection e with e1 e2
  subst e1 e2
  rw [oneOp_7] at h7
  rw [oneOp_40] at h40
  injection h7 with h7
  injection h40 with h40
  subst h7 h40
  have v5 := KX4.cell 5
  have HB5 := Lib.hid B5
  clear R4 B5 B4 B3 B2 hb4 hb2 hb1 BX RZ KX KX4 hr1 hown hmk
  go_wp2_with fail
  go_ret
  exact ⟨rfl, HB5.out⟩
end Go.Proofs.YtlnmmklpccppmaaGreatDoor

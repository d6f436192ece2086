/-
  What the calls by which the library's heap asks do: contracts, one a function.
  What the library's heap does with the blocks that wait: contracts, one a function.
-/
import Derived.Test.YtlnmmklpccppmaaGreatDoorTg8
import Derived.Deep.DeepCutAuto
namespace Go.Proofs.YtlnmmklpccppmaaGreatDoor
open Go.RowKit
/-- A queue as a value, and as one of the library's interface. -/
def qv (g : Nat) : Value := .agg (qcs g).toArray
def qi (g : Nat) : Value := .iface 202 (qv g)
theorem run_iLen (g : Nat) (W : World) : Sem.run Tryz.prog (method 376 202 (qv g) "Len") W = .ok (188, qv g) W := by kernel_rfl
theorem run_iLess (g : Nat) (W : World) : Sem.run Tryz.prog (method 376 202 (qv g) "Less") W = .ok (227, qv g) W := by kernel_rfl
theorem run_iSwap (g : Nat) (W : World) : Sem.run Tryz.prog (method 376 202 (qv g) "Swap") W = .ok (230, qv g) W := by kernel_rfl
theorem run_iPush (g : Nat) (W : World) : Sem.run Tryz.prog (method 376 202 (qv g) "Push") W = .ok (229, qv g) W := by kernel_rfl
theorem run_iPop (g : Nat) (W : World) : Sem.run Tryz.prog (method 376 202 (qv g) "Pop") W = .ok (228, qv g) W := by kernel_rfl
theorem run_assert (x o : Int) (W : World) : Sem.run Tryz.prog (Instr.typeAssert (.iface 65 (.agg #[.int .i64 x, .int .i64 o])) 20 65 true) W = .ok (.tuple #[.agg #[.int .i64 x, .int .i64 o], .bool true]) W := by kernel_rfl
theorem grew_one (w : World) (o : Obj) : Grew w (w.alloc o) := (Grew.refl w).alloc o
set_option maxRecDepth 100000 in
set_option maxHeartbeats 1000000 in
theorem qLen_any (base g : Nat) (v : Value) (l : List Blk) (w : World) (h : QAt w base g v l) :
    Calls Tryz.prog 188 #[qv g] w (Says w (.int .i64 (l.length : Int))) := by
  obtain ⟨A, c, rfl, _⟩ := h.own.shape rfl
  have S := fun o => size_any g l.length c A _ (h.below (grew_one w o).below).at_
  have hM := run_mSize g
  clear h
  unfold qv qcs mSize mSwap mPush mPop mLess
  go_enter Tryz.func188, Tryz.ntmps188
  go_wp2_with (go_at_call 197; refine (S _).mono ?_; rintro e w1 ⟨rfl, g1⟩)
  go_ret
  exact ⟨rfl, (grew_one w _).trans g1⟩
set_option maxRecDepth 100000 in
set_option maxHeartbeats 1000000 in
theorem qLess_any (base g : Nat) (v : Value) (l : List Blk) (i j : Nat) (w : World) (h : QAt w base g v l) (hi : i < l.length) (hj : j < l.length) :
    Calls Tryz.prog 227 #[qv g, .int .i64 (i : Int), .int .i64 (j : Int)] w (Says w (.bool (lessB (nth l i) (nth l j)))) := by
  have S := fun o => less_any base g v l i j _ (h.below (grew_one w o).below) hi hj
  obtain ⟨r, hr⟩ : ∃ r, r = lessB (nth l i) (nth l j) := ⟨_, rfl⟩
  rw [← hr] at S ⊢
  clear h hr
  unfold qv qcs mSize mSwap mPush mPop mLess
  go_enter Tryz.func227, Tryz.ntmps227
  go_wp2_with (go_at_call 198; refine (S _).mono ?_; rintro e w1 ⟨rfl, g1⟩)
  go_ret
  exact ⟨rfl, (grew_one w _).trans g1⟩
set_option maxRecDepth 100000 in
set_option maxHeartbeats 1000000 in
theorem qSwap_any (base g : Nat) (v : Value) (l : List Blk) (i j : Nat) (w : World) (h : QAt w base g v l) (hi : i < l.length) (hj : j < l.length) :
    Calls Tryz.prog 230 #[qv g, .int .i64 (i : Int), .int .i64 (j : Int)] w fun e w' => e = .returned (.tuple #[]) ∧ Waits w base g v (swp2 l i j) v w' := by
  have S := fun o => swap_any base g v l i j _ (h.below (grew_one w o).below) hi hj
  have hW := fun o => h.waits (grew_one w o).below
  have hM := run_mSwap g
  clear h
  unfold qv qcs mSize mSwap mPush mPop mLess
  go_enter Tryz.func230, Tryz.ntmps230
  go_wp2_with (go_at_call 199; refine (S _).mono ?_; rintro e w1 ⟨rfl, g1⟩)
  go_end0
  exact ⟨rfl, (hW _).trans g1⟩
set_option maxRecDepth 100000 in
set_option maxHeartbeats 1000000 in
theorem qPush_any (base g : Nat) (v : Value) (l : List Blk) (b : Blk) (w : World) (h : QAt w base g v l) (hl : l.length ≤ 1000) (hb : base ≤ w.heap.size) :
    Calls Tryz.prog 229 #[qv g, .iface 65 (bval b)] w fun e w' => e = .returned (.tuple #[]) ∧ ∃ v', Waits w base g v (l ++ [b]) v' w' := by
  have S := fun o o' => push_any base g v l b _ ((h.below (grew_one w o).below).below (grew_one _ o').below) hl (Nat.le_trans hb (Nat.le_trans (grew_one w o).below.size (grew_one _ o').below.size))
  have hW := fun o o' => (h.waits (grew_one w o).below).trans ((h.below (grew_one w o).below).waits (grew_one _ o').below)
  have hM := run_mPush g
  have hA := run_assert
  clear h
  obtain ⟨x, o⟩ := b
  unfold bval enc2 at *
  simp only at *
  unfold qv qcs mSize mSwap mPush mPop mLess
  go_enter Tryz.func229, Tryz.ntmps229
  go_wp2_with (go_at_call 200; refine (S _ _).mono ?_; rintro e w1 ⟨rfl, v', g1⟩)
  go_end0
  exact ⟨rfl, v', (hW _ _).trans g1⟩
set_option maxRecDepth 100000 in
set_option maxHeartbeats 1000000 in
theorem qPop_any (base g : Nat) (v : Value) (l : List Blk) (m : Nat) (w : World) (h : QAt w base g v l) (hl : l.length = m + 1) (h2 : m ≤ 1000) :
    Calls Tryz.prog 228 #[qv g] w fun e w' => e = .returned (.iface 65 (bval (nth l m))) ∧ ∃ v', Waits w base g v (l.take m) v' w' := by
  have S := fun o => pop_any base g v l m _ (h.below (grew_one w o).below) hl h2
  have hW := fun o => h.waits (grew_one w o).below
  have hM := run_mPop g
  obtain ⟨⟨x, o⟩, hx⟩ : ∃ x, x = nth l m := ⟨_, rfl⟩
  rw [← hx] at S ⊢
  clear h hx
  unfold bval enc2 at *
  simp only at *
  unfold qv qcs mSize mSwap mPush mPop mLess
  go_enter Tryz.func228, Tryz.ntmps228
  go_wp2_with (go_at_call 201; refine (S _).mono ?_; rintro e w1 ⟨rfl, v', g1⟩)
  go_ret
  exact ⟨rfl, v', (hW _).trans g1⟩
end Go.Proofs.YtlnmmklpccppmaaGreatDoor
namespace Go.Proofs.YtlnmmklpccppmaaGreatDoor
open Go.RowKit
/-- A heap as far as n from k on is made, out of the same blocks; from n on all stay. -/
def DownTo (w : World) (base g : Nat) (v : Value) (l : List Blk) (n k : Nat) (l' : List Blk) (w' : World) : Prop :=
  l'.Perm l ∧ (∀ j, n ≤ j → nth l' j = nth l j) ∧ HeapFrom l' n k ∧ Waits w base g v l' v w'
/-- So far. -/
def DownRel (w : World) (base g : Nat) (v : Value) (l : List Blk) (n i0 : Nat) (i : Value) (wr : World) : Prop :=
  ∃ (k : Nat) (l' : List Blk), i = .int .i64 (k : Int) ∧ i0 ≤ k ∧ k ≤ 1000 ∧ l'.Perm l ∧ (∀ j, n ≤ j → nth l' j = nth l j) ∧ HeapBut l' n i0 k ∧ Waits w base g v l' v wr
theorem DownRel.done {w wr w1 : World} {base g n i0 : Nat} {v : Value} {l l' : List Blk} (hp : l'.Perm l) (hs : ∀ j, n ≤ j → nth l' j = nth l j) (hh : HeapFrom l' n i0) (hw : Waits w base g v l' v wr) (hg : Grew wr w1) :
    ∃ l', DownTo w base g v l n i0 l' w1 := ⟨l', hp, hs, hh, hw.below hg.below⟩
/-- One step. -/
theorem DownRel.next {w wr w1 w2 : World} {base g n i0 k j : Nat} {v : Value} {l l' : List Blk} (hp : l'.Perm l) (hs : ∀ j, n ≤ j → nth l' j = nth l j) (hh : HeapBut l' n i0 k) (hw : Waits w base g v l' v wr) (hg : Grew wr w1)
    (hk : i0 ≤ k) (hl : l'.length ≤ 1000) (hn : n ≤ l'.length) (hj : j = 2 * k + 1 ∨ j = 2 * k + 2) (hjn : j < n) (hlq : Lq (nth l' j) (nth l' k)) (ho : ∀ c, (c = 2 * k + 1 ∨ c = 2 * k + 2) → c < n → Lq (nth l' j) (nth l' c))
    (h2 : Waits w1 base g v (swp2 l' k j) v w2) : DownRel w base g v l n i0 (.int .i64 (j : Int)) w2 := by
  refine ⟨j, swp2 l' k j, rfl, by omega, by omega, (swp2_perm (by omega) (by omega)).trans hp, fun m hm => ?_, hh.down hk hn hj hjn hlq ho, (hw.below hg.below).trans h2⟩
  rw [nth_swp2 (by omega) (by omega), if_neg (by omega), if_neg (by omega)]
  exact hs m hm
set_option maxRecDepth 100000 in
set_option maxHeartbeats 4000000 in
theorem down_any (base g : Nat) (v : Value) (l : List Blk) (i0 n : Nat) (w : World) (h : QAt w base g v l) (hn : n ≤ l.length) (hl : l.length ≤ 1000) (hi : i0 ≤ 1000) (hk : HeapFrom l n (i0 + 1)) :
    Calls Tryz.prog 202 #[qi g, .int .i64 (i0 : Int), .int .i64 (n : Int)] w fun e w' => (∃ r : Value, e = .returned r) ∧ ∃ l', DownTo w base g v l n i0 l' w' := by
  have mL := run_iLess g
  have mS := run_iSwap g
  unfold qi
  go_enter Tryz.func202, Tryz.ntmps202
  go_wp2
  go_loopw [7] (DownRel w base g v l n i0) (fun i _ => 1001 - (intOf i).toNat)
  case atStart => exact ⟨i0, l, rfl, Nat.le_refl _, hi, List.Perm.refl _, fun _ _ => rfl, heapBut_of hk, h.waits (Below.refl _ _)⟩
  case round =>
    clear h hk
    obtain ⟨k, l', rfl, hik, hk1, hp, hs, hh, hw⟩ := hrel
    have hlen := hp.length_eq
    rw [← hlen] at hn hl
    have hq := hw.1
    obtain ⟨a, ha⟩ : ∃ a, a = 2 * k + 1 := ⟨_, rfl⟩
    obtain ⟨b, hb⟩ : ∃ b, b = 2 * k + 2 := ⟨_, rfl⟩
    have e1 := Lib.hid (show (2 : Int) * (k : Int) + 1 = (a : Int) by omega)
    have e2 := Lib.hid (show (a : Int) + 1 = (b : Int) by omega)
    have HA := Lib.hid (show a = 2 * k + 1 ∧ b = 2 * k + 2 from ⟨ha, hb⟩)
    have hab : a < b := by omega
    have ha1 : a ≤ 2001 := by omega
    have hb1 : b ≤ 2002 := by omega
    have hka : k < a := by omega
    have hbn : a < n → b ≤ n := by omega
    clear ha hb
    go_upto_region 3 with (fail)
    rw [e1.out]
    clear e1
    by_cases h1 : n ≤ a
    · have t1 : decide ((n : Int) ≤ (a : Int)) = true := by simp; omega
      clear e2
      go_wp2
      go_ret
      exact ⟨⟨_, rfl⟩, DownRel.done hp hs (hh.none (by have := HA.out; omega)) hw (Grew.refl _)⟩
    · have t1 : decide ((n : Int) ≤ (a : Int)) = false := by simp; omega
      go_upto_region 6 with (fail)
      rw [e2.out]
      clear e2
      by_cases h2 : b < n
      · have t2 : decide ((b : Int) < (n : Int)) = true := by simp; omega
        cases r1 : lessB (nth l' b) (nth l' a) with
        | false =>
          have L1 := qLess_any base g v l' b a wr hq (by omega) (by omega)
          rw [r1] at L1
          go_upto_region 8 with (go_at_call 227; refine L1.mono ?_; rintro e w1 ⟨rfl, G1⟩)
          clear L1
          cases r2 : lessB (nth l' a) (nth l' k) with
          | false =>
            have L2 := fun G => qLess_any base g v l' a k w1 (hq.below (G : Grew wr w1).below) (by omega) (by omega)
            rw [r2] at L2
            go_wp2_with (go_at_call_of 227 k; refine (L2 (G1)).mono ?_; rintro e w2 ⟨rfl, G2⟩)
            go_ret
            exact ⟨⟨_, rfl⟩, DownRel.done hp hs (hh.fits (fun _ => by rw [← HA.out.1]; exact lessB_no r2) (fun _ => by rw [← HA.out.2]; exact (lessB_no r2).trans (lessB_no r1))) hw ((G1).trans G2)⟩
          | true =>
            have L2 := fun G => qLess_any base g v l' a k w1 (hq.below (G : Grew wr w1).below) (by omega) (by omega)
            rw [r2] at L2
            go_wp2_with (first | (go_at_call_of 227 k; refine (L2 (G1)).mono ?_; rintro e w2 ⟨rfl, G2⟩) | (go_at_call 230; refine (qSwap_any base g v l' k a w2 (hq.below ((G1).trans G2).below) (by omega) (by omega)).mono ?_; rintro e w3 ⟨rfl, hw3⟩))
            go_roundw
            case rel => exact DownRel.next hp hs hh hw ((G1).trans G2) hik hl hn (by have := HA.out; omega) (by omega) (lessB_yes r2) (fun c hc _ => by rcases hc with rfl | rfl; rw [← HA.out.1]; exact Lq.refl _; rw [← HA.out.2]; exact lessB_no r1) hw3
            case measure => simp [intOf]; omega
        | true =>
          have L1 := qLess_any base g v l' b a wr hq (by omega) (by omega)
          rw [r1] at L1
          go_upto_region 8 with (go_at_call 227; refine L1.mono ?_; rintro e w1 ⟨rfl, G1⟩)
          clear L1
          cases r2 : lessB (nth l' b) (nth l' k) with
          | false =>
            have L2 := fun G => qLess_any base g v l' b k w1 (hq.below (G : Grew wr w1).below) (by omega) (by omega)
            rw [r2] at L2
            go_wp2_with (go_at_call_of 227 k; refine (L2 (G1)).mono ?_; rintro e w2 ⟨rfl, G2⟩)
            go_ret
            exact ⟨⟨_, rfl⟩, DownRel.done hp hs (hh.fits (fun _ => by rw [← HA.out.1]; exact (lessB_no r2).trans (lessB_yes r1)) (fun _ => by rw [← HA.out.2]; exact lessB_no r2)) hw ((G1).trans G2)⟩
          | true =>
            have L2 := fun G => qLess_any base g v l' b k w1 (hq.below (G : Grew wr w1).below) (by omega) (by omega)
            rw [r2] at L2
            go_wp2_with (first | (go_at_call_of 227 k; refine (L2 (G1)).mono ?_; rintro e w2 ⟨rfl, G2⟩) | (go_at_call 230; refine (qSwap_any base g v l' k b w2 (hq.below ((G1).trans G2).below) (by omega) (by omega)).mono ?_; rintro e w3 ⟨rfl, hw3⟩))
            go_roundw
            case rel => exact DownRel.next hp hs hh hw ((G1).trans G2) hik hl hn (by have := HA.out; omega) (by omega) (lessB_yes r2) (fun c hc _ => by rcases hc with rfl | rfl; rw [← HA.out.1]; exact lessB_yes r1; rw [← HA.out.2]; exact Lq.refl _) hw3
            case measure => simp [intOf]; omega
      · have t2 : decide ((b : Int) < (n : Int)) = false := by simp; omega
        cases r2 : lessB (nth l' a) (nth l' k) with
        | false =>
          have L2 := fun G => qLess_any base g v l' a k wr (hq.below (G : Grew wr wr).below) (by omega) (by omega)
          rw [r2] at L2
          go_wp2_with (go_at_call_of 227 k; refine (L2 (Grew.refl wr)).mono ?_; rintro e w2 ⟨rfl, G2⟩)
          go_ret
          exact ⟨⟨_, rfl⟩, DownRel.done hp hs (hh.fits (fun _ => by rw [← HA.out.1]; exact lessB_no r2) (fun h => absurd h (by have := HA.out; omega))) hw ((Grew.refl wr).trans G2)⟩
        | true =>
          have L2 := fun G => qLess_any base g v l' a k wr (hq.below (G : Grew wr wr).below) (by omega) (by omega)
          rw [r2] at L2
          go_wp2_with (first | (go_at_call_of 227 k; refine (L2 (Grew.refl wr)).mono ?_; rintro e w2 ⟨rfl, G2⟩) | (go_at_call 230; refine (qSwap_any base g v l' k a w2 (hq.below ((Grew.refl wr).trans G2).below) (by omega) (by omega)).mono ?_; rintro e w3 ⟨rfl, hw3⟩))
          go_roundw
          case rel => exact DownRel.next hp hs hh hw ((Grew.refl wr).trans G2) hik hl hn (by have := HA.out; omega) (by omega) (lessB_yes r2) (fun c hc hcn => by rcases hc with rfl | rfl; rw [← HA.out.1]; exact Lq.refl _; have := HA.out; omega) hw3
          case measure => simp [intOf]; omega
end Go.Proofs.YtlnmmklpccppmaaGreatDoor

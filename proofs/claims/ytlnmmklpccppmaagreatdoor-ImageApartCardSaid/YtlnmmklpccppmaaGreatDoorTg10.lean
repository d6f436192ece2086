/-
  What the library's heap does with the blocks that wait, further: up, Init, Push and Pop: contracts, one a function.
  What goes out of what waits, and what comes in: the library's Pop and Push, and the queue's own calls: contracts, one a function.
  The queue of free blocks: it is made of a copy, the first one goes out, one comes in: contracts, one a function.
-/
import Derived.Test.YtlnmmklpccppmaaGreatDoorTg9
import Derived.Laws.EntriesVeiled
namespace Go.Proofs.YtlnmmklpccppmaaGreatDoor
open Go.RowKit
/-- What waits is a heap of these blocks. -/
def Made (w : World) (base g : Nat) (v : Value) (l l' : List Blk) (v' : Value) (w' : World) : Prop := l'.Perm l ∧ HeapFrom l' l'.length 0 ∧ Waits w base g v l' v' w'
def UpRel (w : World) (base g : Nat) (v : Value) (l : List Blk) (i : Value) (wr : World) : Prop :=
  ∃ (k : Nat) (l' : List Blk), i = .int .i64 (k : Int) ∧ k < l'.length ∧ l'.Perm l ∧ HeapUp l' k ∧ Waits w base g v l' v wr
theorem UpRel.next {w wr w1 w2 : World} {base g k p : Nat} {v : Value} {l l' : List Blk} (hp : l'.Perm l) (hh : HeapUp l' k) (hw : Waits w base g v l' v wr) (hg : Grew wr w1)
    (hk : k < l'.length) (hj : k = 2 * p + 1 ∨ k = 2 * p + 2) (hlq : Lq (nth l' k) (nth l' p)) (h2 : Waits w1 base g v (swp2 l' p k) v w2) : UpRel w base g v l (.int .i64 (p : Int)) w2 :=
  ⟨p, swp2 l' p k, rfl, by rw [swp2_length]; omega, (swp2_perm (by omega) hk).trans hp, hh.up hj hk hlq, (hw.below hg.below).trans h2⟩
set_option maxRecDepth 100000 in
set_option maxHeartbeats 4000000 in
theorem up_any (base g : Nat) (v : Value) (l : List Blk) (j : Nat) (w : World) (h : QAt w base g v l) (hj : j < l.length) (hl : l.length ≤ 1001) (hk : HeapUp l j) :
    Calls Tryz.prog 204 #[qi g, .int .i64 (j : Int)] w fun e w' => e = .returned (.tuple #[]) ∧ ∃ l', Made w base g v l l' v w' := by
  have mL := run_iLess g
  have mS := run_iSwap g
  unfold qi
  go_enter Tryz.func204, Tryz.ntmps204
  go_wp2
  go_loopw [1] (UpRel w base g v l) (fun i _ => (intOf i).toNat)
  case atStart => exact ⟨j, l, rfl, hj, List.Perm.refl _, hk, h.waits (Below.refl _ _)⟩
  case round =>
    clear h hk hj
    obtain ⟨k, l', rfl, hkl, hp, hh, hw⟩ := hrel
    have hlen := hp.length_eq
    rw [← hlen] at hl
    have hq := hw.1
    by_cases h0 : k = 0
    · subst h0
      go_wp2
      go_end0
      exact ⟨rfl, l', hp, hh.top, hw⟩
    · obtain ⟨p, hpk⟩ : ∃ p, p = (k - 1) / 2 := ⟨_, rfl⟩
      have e1 := Lib.hid (show ((k : Int) - 1) / 2 = (p : Int) by omega)
      have HA := Lib.hid (show k = 2 * p + 1 ∨ k = 2 * p + 2 by omega)
      have hpk2 : p < k := by omega
      have hk1 : 1 ≤ k := by omega
      clear hpk
      go_upto_region 1 with (fail)
      rw [e1.out]
      clear e1
      have t1 : ((p : Int) == (k : Int)) = false := by simp; omega
      have L1 := qLess_any base g v l' k p wr hq hkl (by omega)
      cases r1 : lessB (nth l' k) (nth l' p) with
      | false =>
        rw [r1] at L1
        go_wp2_with (go_at_call 227; refine L1.mono ?_; rintro e w1 ⟨rfl, G1⟩)
        go_end0
        exact ⟨rfl, l', hp, hh.fits HA.out (lessB_no r1), hw.below G1.below⟩
      | true =>
        rw [r1] at L1
        go_wp2_with (first | (go_at_call 227; refine L1.mono ?_; rintro e w1 ⟨rfl, G1⟩) | (go_at_call 230; refine (qSwap_any base g v l' p k w1 (hq.below G1.below) (by omega) hkl).mono ?_; rintro e w2 ⟨rfl, hw2⟩))
        go_roundw
        case rel => exact UpRel.next hp hh hw G1 hkl HA.out (lessB_yes r1) hw2
        case measure => simp [intOf]; omega
/-- So far. -/
def InitRel (w : World) (base g : Nat) (v : Value) (l : List Blk) (i : Value) (wr : World) : Prop :=
  ∃ (k : Nat) (l' : List Blk), i = .int .i64 ((k : Int) - 1) ∧ k ≤ l.length / 2 ∧ l'.Perm l ∧ HeapFrom l' l.length k ∧ Waits w base g v l' v wr
set_option maxRecDepth 100000 in
set_option maxHeartbeats 4000000 in
theorem init_any (base g : Nat) (v : Value) (l : List Blk) (w : World) (h : QAt w base g v l) (hl : l.length ≤ 1000) :
    Calls Tryz.prog 183 #[qi g] w fun e w' => e = .returned (.tuple #[]) ∧ ∃ l', Made w base g v l l' v w' := by
  have mL := run_iLen g
  have S := qLen_any base g v l w h
  obtain ⟨n, hn⟩ : ∃ n, n = l.length := ⟨_, rfl⟩
  rw [← hn] at S hl
  have HN := Lib.hid hn
  have hi : qi g = .iface 202 (qv g) := rfl
  have HD := fun (W : World) (l' : List Blk) (i : Nat) (hq : QAt W base g v l') (h1 : l'.length = n) (hi : i ≤ 1000) (hh : HeapFrom l' n (i + 1)) => down_any base g v l' i n W hq (by omega) (by omega) hi hh
  rw [hi] at HD
  have HH := Lib.hid HD
  clear HD hi
  unfold qi
  have Hh := Lib.hid h
  clear h hn
  go_enter Tryz.func183, Tryz.ntmps183
  go_wp2_with (go_at_call 188; refine S.mono ?_; rintro e w1 ⟨rfl, G1⟩)
  clear S
  go_loopw [3] (InitRel w base g v l) (fun i _ => (intOf i + 1).toNat)
  case atStart =>
    exact ⟨n / 2, l, by go_num, by rw [HN.out]; exact Nat.le_refl _, List.Perm.refl _, fun j c hj hc hcn => by have := HN.out; omega, Hh.out.waits G1.below⟩
  case round =>
    obtain ⟨k, l', rfl, hkn, hp, hh, hw⟩ := hrel
    rw [← HN.out] at hkn hh
    have hlen := hp.length_eq
    by_cases h0 : k = 0
    · subst h0
      have hd := Lib.hid hh
      clear hh
      go_wp2
      go_end0
      exact ⟨rfl, l', hp, by rw [hlen, ← HN.out]; exact hd.out, hw⟩
    · obtain ⟨m, rfl⟩ : ∃ m, k = m + 1 := ⟨k - 1, by omega⟩
      have hm : m ≤ 1000 := by omega
      have e1 : ((m + 1 : Nat) : Int) - 1 = (m : Int) := by omega
      rw [e1]
      clear e1
      have D := HH.out wr l' m hw.1 (by rw [hlen, ← HN.out]) hm hh
      have hd := Lib.hid hh
      clear hh
      go_wp2_with (go_at_call 202; refine D.mono ?_; rintro e w2 ⟨⟨rv, rfl⟩, l2, hp2, hs2, hh2, hw2⟩)
      go_roundw
      case rel => exact ⟨m, l2, rfl, by have := HN.out; omega, hp2.trans hp, by rw [← HN.out]; exact hh2, hw.trans hw2⟩
      case measure => simp [intOf]
end Go.Proofs.YtlnmmklpccppmaaGreatDoor
namespace Go.Proofs.YtlnmmklpccppmaaGreatDoor
open Go.RowKit
/-- The first one is out, and the others are a heap. -/
def Popped (w : World) (base g : Nat) (v : Value) (l : List Blk) (b : Blk) (w' : World) : Prop :=
  ∃ l' v', (b :: l').Perm l ∧ (∀ c ∈ l', Lq b c) ∧ HeapFrom l' l'.length 0 ∧ Waits w base g v l' v' w'
theorem heap_swapped {l : List Blk} {n : Nat} (h : HeapFrom l l.length 0) (hn : l.length = n + 1) : HeapFrom (swp2 l 0 n) n 1 := fun j c hj hc hcn => by
  rw [nth_swp2 (by omega) (by omega), nth_swp2 (by omega) (by omega), if_neg (by omega), if_neg (by omega), if_neg (by omega), if_neg (by omega)]
  exact h j c (Nat.zero_le _) hc (by omega)
theorem popped_of {w w1 w2 w3 : World} {base g n : Nat} {v v' : Value} {l l2 : List Blk} (h : HeapFrom l l.length 0) (hn : l.length = n + 1) (h1 : Waits w base g v (swp2 l 0 n) v w1) (hp : l2.Perm (swp2 l 0 n)) (hs : ∀ j, n ≤ j → nth l2 j = nth (swp2 l 0 n) j)
    (hh : HeapFrom l2 n 0) (h2 : Waits w1 base g v l2 v w2) (h3 : Waits w2 base g v (l2.take n) v' w3) : nth l2 n = nth l 0 ∧ Popped w base g v l (nth l 0) w3 := by
  have e : nth l2 n = nth l 0 := by rw [hs n (Nat.le_refl _), nth_swp2 (by omega) (by omega), if_pos rfl]
  have hl2 : l2.length = n + 1 := by rw [hp.length_eq, swp2_length]; exact hn
  have ht : (l2.take n).length = n := by rw [List.length_take]; omega
  have hperm : (nth l 0 :: l2.take n).Perm l := by
    have e2 : l2.take n ++ [nth l 0] = l2 := by rw [← e]; exact take_last hl2
    have := List.perm_append_comm (l₁ := [nth l 0]) (l₂ := l2.take n)
    rw [List.singleton_append] at this
    refine this.trans ?_
    rw [e2]
    exact hp.trans (swp2_perm (by omega) (by omega))
  refine ⟨e, l2.take n, v', hperm, fun c hc => ?_, ?_, (h1.trans h2).trans h3⟩
  · exact heap_first_mem h (hperm.mem_iff.1 (List.mem_cons_of_mem _ hc))
  · rw [ht]; exact heap_take hh
set_option maxRecDepth 100000 in
set_option maxHeartbeats 4000000 in
theorem hpop_any (base g : Nat) (v : Value) (l : List Blk) (n : Nat) (w : World) (h : QAt w base g v l) (hn : l.length = n + 1) (hl : n + 1 ≤ 1000) (hh : HeapFrom l l.length 0) :
    Calls Tryz.prog 184 #[qi g] w fun e w' => e = .returned (.iface 65 (bval (nth l 0))) ∧ Popped w base g v l (nth l 0) w' := by
  have mL := run_iLen g
  have mS := run_iSwap g
  have mP := run_iPop g
  have S1 := qLen_any base g v l w h
  rw [hn] at S1
  have hi : qi g = .iface 202 (qv g) := rfl
  have S3 := fun (W : World) (hq : QAt W base g v (swp2 l 0 n)) => down_any base g v (swp2 l 0 n) 0 n W hq (by rw [swp2_length]; omega) (by rw [swp2_length]; omega) (by omega) (heap_swapped hh hn)
  rw [hi] at S3
  clear hi
  unfold qi
  have H := Lib.hid h
  have HN := Lib.hid hn
  have HH := Lib.hid hh
  have e1 : ((n + 1 : Nat) : Int) - 1 = (n : Int) := by omega
  clear h hn hh
  go_enter Tryz.func184, Tryz.ntmps184
  go_wp2_with (first | (go_at_call 188; refine S1.mono ?_; rintro e w1 ⟨rfl, G1⟩) | (go_at_call 230; refine (qSwap_any base g v l 0 n w1 (H.out.below G1.below) (by have := HN.out; omega) (by have := HN.out; omega)).mono ?_; rintro e w2 ⟨rfl, hw2⟩) | (go_at_call 202; refine (S3 w2 hw2.1).mono ?_; rintro e w3 ⟨⟨rv, rfl⟩, l2, hp3, hs3', hh3, hw3⟩; have hs3 := Lib.hid hs3'; clear hs3') | (go_at_call 228; refine (qPop_any base g v l2 n w3 hw3.1 (by rw [hp3.length_eq, swp2_length]; exact HN.out) (by omega)).mono ?_; rintro e w4 ⟨rfl, v', hw4⟩))
  go_ret
  obtain ⟨e2, e3⟩ := popped_of HH.out HN.out ((H.out.waits G1.below).trans hw2) hp3 hs3.out hh3 hw3 hw4
  exact ⟨by rw [← e2]; rfl, e3⟩
set_option maxRecDepth 100000 in
set_option maxHeartbeats 4000000 in
theorem hpush_any (base g : Nat) (v : Value) (l : List Blk) (b : Blk) (w : World) (h : QAt w base g v l) (hl : l.length ≤ 1000) (hb : base ≤ w.heap.size) (hh : HeapFrom l l.length 0) :
    Calls Tryz.prog 187 #[qi g, .iface 65 (bval b)] w fun e w' => e = .returned (.tuple #[]) ∧ ∃ l' v', Made w base g v (l ++ [b]) l' v' w' := by
  have mL := run_iLen g
  have mP := run_iPush g
  have S1 := qPush_any base g v l b w h hl hb
  obtain ⟨n, hn⟩ : ∃ n, n = l.length := ⟨_, rfl⟩
  have hlen : (l ++ [b]).length = n + 1 := by rw [List.length_append, hn]; rfl
  have S2 := fun (W : World) (v' : Value) (hq : QAt W base g v' (l ++ [b])) => qLen_any base g v' (l ++ [b]) W hq
  rw [hlen] at S2
  have hi : qi g = .iface 202 (qv g) := rfl
  have S3 := fun (W : World) (v' : Value) (hq : QAt W base g v' (l ++ [b])) => up_any base g v' (l ++ [b]) n W hq (by rw [hlen]; omega) (by rw [hlen]; omega) (by rw [hn]; exact heapUp_push hh b)
  rw [hi] at S3
  clear hi
  unfold qi
  have e1 : ((n + 1 : Nat) : Int) - 1 = (n : Int) := by omega
  have hn1 : n ≤ 1000 := by omega
  clear h hn hh hlen
  go_enter Tryz.func187, Tryz.ntmps187
  go_wp2_with (first | (go_at_call 229; refine S1.mono ?_; rintro e w1 ⟨rfl, v1, hw1⟩) | (go_at_call 188; refine (S2 w1 v1 hw1.1).mono ?_; rintro e w2 ⟨rfl, G2⟩) | (go_at_call 204; refine (S3 w2 v1 (hw1.1.below G2.below)).mono ?_; rintro e w3 ⟨rfl, l3, hp3, hh3, hw3⟩))
  go_end0
  exact ⟨rfl, l3, v1, hp3, hh3, (hw1.below G2.below).trans hw3⟩
end Go.Proofs.YtlnmmklpccppmaaGreatDoor
namespace Go.Proofs.YtlnmmklpccppmaaGreatDoor
open Go.RowKit
theorem Popped.pre {w w1 w2 : World} {base g : Nat} {v : Value} {l : List Blk} {b : Blk} (hb : Below w.heap.size w w1) (h : Popped w1 base g v l b w2) : Popped w base g v l b w2 := by
  obtain ⟨l', v', h1, h2, h3, h4⟩ := h
  exact ⟨l', v', h1, h2, h3, h4.1, (QStep.of_below hb g v).trans h4.2⟩
theorem Popped.post {w w1 w2 : World} {base g : Nat} {v : Value} {l : List Blk} {b : Blk} (h : Popped w base g v l b w1) (hb : Below w1.heap.size w1 w2) : Popped w base g v l b w2 := by
  obtain ⟨l', v', h1, h2, h3, h4⟩ := h
  exact ⟨l', v', h1, h2, h3, h4.below hb⟩
theorem Popped.keeps {w w1 : World} {base g : Nat} {v : Value} {l : List Blk} {b : Blk} (h : Popped w base g v l b w1) {k : Nat} (hk : k < w.heap.size) (hg : k ≠ g) (hv : v.ownBlock ≠ some k) : w1.heap[k]? = w.heap[k]? := by
  obtain ⟨l', v', _, _, _, h4⟩ := h
  exact h4.2.block k hk hg hv
/-- Behind it a block r of the call's own is written. -/
theorem Waits.beside {w W w1 w2 : World} {base g r : Nat} {v v' : Value} {l : List Blk} (hB : Below w.heap.size w W) (h : Waits W base g v l v' w1) (hr : w.heap.size ≤ r) (hrW : r < W.heap.size) (hg : r ≠ g) (hv : v.ownBlock ≠ some r) (h2 : w1.grownBy w2 (some r)) : Waits w base g v l v' w2 := by
  have hv' : v'.ownBlock ≠ some r := by
    rcases h.2.own with e | ⟨k, e, hk⟩
    · rw [e]; exact hv
    · rw [e]; intro e2; injection e2 with e2; omega
  have hs := hB.size
  have hs1 := h.2.size
  refine ⟨⟨h.1.at_.grown h2 (fun e => hg e.symm), h.1.own.grown h2 (fun k hk => by rintro e; injection e with e; exact hv' (e ▸ hk)), h.1.lo⟩, ?_⟩
  refine ⟨h2.os.trans (h.2.os.trans hB.os), h2.tape.trans (h.2.tape.trans hB.tape), h2.output.trans (h.2.output.trans hB.output), Nat.le_trans hs (Nat.le_trans hs1 h2.size), fun k hk hkg hkv => ?_, ?_⟩
  · rw [h2.block k (by omega) (by intro e; injection e with e; omega), h.2.block k (by omega) hkg hkv, hB.block k hk]
  · rcases h.2.own with e | ⟨k, e, hk⟩
    · exact .inl e
    · exact .inr ⟨k, e, by omega⟩
theorem Popped.beside {w W w1 w2 : World} {base g r : Nat} {v : Value} {l : List Blk} {b : Blk} (hB : Below w.heap.size w W) (h : Popped W base g v l b w1) (hr : w.heap.size ≤ r) (hrW : r < W.heap.size) (hg : r ≠ g) (hv : v.ownBlock ≠ some r) (h2 : w1.grownBy w2 (some r)) : Popped w base g v l b w2 := by
  obtain ⟨l', v', e1, e2, e3, h4⟩ := h
  exact ⟨l', v', e1, e2, e3, h4.beside hB hr hrW hg hv h2⟩
/-- A block of two cells that is kept: what a walk asks of it. -/
theorem kept_cells {w : World} {r : Nat} {x y : Value} {t : TypeId} (h : Whole w r t [x, y]) : (∀ o, (w.alloc o).cell? ⟨r, 0, none⟩ = some x) ∧ (∀ o, (w.alloc o).cell? ⟨r, 1, none⟩ = some y) ∧ ∀ o j, (w.alloc o).frozen? ⟨r, j, none⟩ = false :=
  ⟨fun o => (h.alloc o).cell 0, fun o => (h.alloc o).cell 1, fun o j => (h.alloc o).free j⟩
theorem qi_open (g : Nat) : qi g = .iface 202 (.agg #[.pointer (some ⟨g, 0, none⟩), mSize, mLess, mSwap, mPush, mPop]) := rfl
set_option maxRecDepth 100000 in
set_option maxHeartbeats 2000000 in
theorem qnext_any (base g : Nat) (v : Value) (l : List Blk) (n : Nat) (w : World) (h : QAt w base g v l) (hn : l.length = n + 1) (hl : n + 1 ≤ 1000) (hh : HeapFrom l l.length 0) :
    Calls Tryz.prog 157 #[qv g] w fun e w' => e = .returned (bval (nth l 0)) ∧ Popped w base g v l (nth l 0) w' := by
  have hB := fun o o' => ((Below.refl w.heap.size w).alloc (Nat.le_refl _) o).alloc (by simp) o'
  have S := fun o o' => hpop_any base g v l n _ (h.below (hB o o')) hn hl hh
  have hA := run_assert
  obtain ⟨⟨x, o⟩, hx⟩ : ∃ x, x = nth l 0 := ⟨_, rfl⟩
  rw [← hx] at S ⊢
  rw [qi_open] at S
  have HB := Lib.hid hB
  have HK := Lib.hid (fun (o : Obj) => show Whole ((w.alloc o).alloc (.cells #[.int .i64 0, .int .i64 0] 65)) (w.heap.size + 1) 65 [.int .i64 0, .int .i64 0] from by
    have := Whole.new (w.alloc o) #[.int .i64 0, .int .i64 0] 65
    simpa using this)
  have HG := Lib.hid (show g < w.heap.size ∧ ∀ k, v.ownBlock = some k → k < w.heap.size from ⟨h.at_.lt, fun k hk => (h.own.lt k hk).2⟩)
  clear h hx hB
  unfold bval enc2 at *
  simp only at *
  unfold qv qcs
  go_enter Tryz.func157, Tryz.ntmps157
  go_wp2_with (go_at_call 184; refine (S _ _).mono ?_; rintro e w1 ⟨rfl, hp⟩; have W1 := Lib.hid ((HK.out _).keep (hp.keeps (k := w.heap.size + 1) (by simp) (by have := HG.out.1; omega) (fun e => by have := HG.out.2 _ e; omega))); obtain ⟨c0, c1, f0⟩ := kept_cells W1.out)
  have W2 := ((W1.out.alloc (.cells #[.int .i64 x, .int .i64 o] 65)).set 0 (.int .i64 x)).set 1 (.int .i64 o)
  have G2 := grown_trans (grown_trans (grown_below ((Below.refl w1.heap.size w1).alloc (Nat.le_refl _) (.cells #[.int .i64 x, .int .i64 o] 65)) (some (w.heap.size + 1))) (grown_set _ (w.heap.size + 1) 0 (.int .i64 x))) (grown_set _ (w.heap.size + 1) 1 (.int .i64 o))
  refine bodyPost_ret (results_box (b := (x, o)) rfl _ _ (w.heap.size + 1) rfl (W2.cell 0) (W2.cell 1)) rfl ?_
  exact ⟨rfl, hp.beside (HB.out _ _) (by omega) (by simp) (by have := HG.out.1; omega) (fun e => by have := HG.out.2 _ e; omega) G2⟩
set_option maxRecDepth 100000 in
set_option maxHeartbeats 2000000 in
theorem qadd_any (base g : Nat) (v : Value) (l : List Blk) (b : Blk) (w : World) (h : QAt w base g v l) (hl : l.length ≤ 1000) (hb : base ≤ w.heap.size) (hh : HeapFrom l l.length 0) :
    Calls Tryz.prog 164 #[qv g, bval b] w fun e w' => e = .returned (.tuple #[]) ∧ ∃ l' v', Made w base g v (l ++ [b]) l' v' w' := by
  have hB := fun o o' => ((Below.refl w.heap.size w).alloc (Nat.le_refl _) o).alloc (by simp) o'
  have S := fun o o' => hpush_any base g v l b _ (h.below (hB o o')) hl (Nat.le_trans hb (hB o o').size) hh
  rw [qi_open] at S
  obtain ⟨x, o⟩ := b
  have HB := Lib.hid hB
  clear h hB
  unfold bval enc2 at *
  simp only at *
  unfold qv qcs
  go_enter Tryz.func164, Tryz.ntmps164
  go_wp2_with (go_at_call 187; refine (S _ _).mono ?_; rintro e w1 ⟨rfl, l', v', h1, h2, h3⟩)
  go_end0
  exact ⟨rfl, l', v', h1, h2, h3.1, (QStep.of_below (HB.out _ _) g v).trans h3.2⟩
set_option maxHeartbeats 400000 in
theorem byOrder_any (w : World) : Calls Tryz.prog 182 #[] w (Says w (.agg #[mSize, mLess, mSwap, mPush, mPop])) := by
  have W1 := Whole.new w #[mSize, mLess, mSwap, mPush, mPop] 200
  unfold mSize mSwap mPush mPop mLess at *
  go_enter Tryz.func182, Tryz.ntmps182
  go_wp2
  refine bodyPost_ret (results_cell_row rfl _ _ w.heap.size 200 _ (0, 0) _ rfl W1 Tryz.underlying200 rfl (by kernel_rfl)) rfl ?_
  exact ⟨rfl, grew_one w _⟩
set_option maxRecDepth 100000 in
set_option maxHeartbeats 400000 in
/-- slices.Clone of blocks. -/
theorem clone_any (A : Option Addr) (n c : Nat) (l : List Blk) (w : World) (h : RdS w A n l) (hn : n ≤ 1000) :
    Calls Tryz.prog 100 #[.slice A n c] w fun e w' => ∃ v, e = .returned v ∧ OwnB 65 w' w.heap.size v l ∧ Below w.heap.size w w' := by
  cases A with
  | none =>
    have h0 : n = 0 := by
      rcases Nat.eq_zero_or_pos n with h0 | h0
      · exact h0
      · obtain ⟨_, _, e, _⟩ := h.at_ h0
        cases e
    subst h0
    obtain rfl : l = [] := List.eq_nil_of_length_eq_zero h.len
    have q : ∀ W : World, (binOp .eql 24 (.slice none 0 c) (.slice none 0 0)).run Tryz.prog W = .ok (.bool true) W := fun W => run_isnil W _ _ _ _ _ Tryz.underlying24
    go_enter Tryz.func100, Tryz.ntmps100
    go_wp2
    go_ret
    exact ⟨_, rfl, OwnB.nil, Below.refl _ _⟩
  | some a =>
    have hB := (Below.refl w.heap.size w).alloc (Nat.le_refl _) (.cells #[] 65)
    have ho : OwnB 65 (w.alloc (.cells #[] 65)) w.heap.size (.slice (some ⟨w.heap.size, 0, none⟩) 0 0) [] := ⟨rfl, .inr ⟨w.heap.size, 0, #[], rfl, Nat.le_refl _, heap_alloc_new w _, Nat.le_refl _, by simp [maxLen], rfl, rfl⟩⟩
    obtain ⟨v', w', hap, happ⟩ := run_appB (P := Tryz.prog) w.heap.size 24 24 65 Tryz.underlying24 Tryz.infoBlk rfl _ [] ho (some a) n c l (h.below hB) (by simp; omega) hB.size
    rw [List.nil_append] at happ
    have hb2 := happ.below ho (Nat.le_refl _) hB.size hB
    have Ho := Lib.hid happ.1
    have q : ∀ W : World, (binOp .eql 24 (.slice (some a) n c) (.slice none 0 0)).run Tryz.prog W = .ok (.bool false) W := fun W => run_isnil W _ _ _ _ _ Tryz.underlying24
    clear h happ ho
    go_enter Tryz.func100, Tryz.ntmps100
    go_wp2_with (at_builtin; refine wpList_append_run hap rfl _ _ rfl rfl rfl rfl ?_)
    go_ret
    exact ⟨_, rfl, Ho.out, hb2⟩
/-- A queue of these blocks, in memory of the call's own. -/
def Queued (w : World) (l : List Blk) (e : Ending) (w' : World) : Prop :=
  ∃ g v l', e = .returned (qv g) ∧ QAt w' w.heap.size g v l' ∧ l'.Perm l ∧ HeapFrom l' l'.length 0 ∧ Below w.heap.size w w'
set_option maxHeartbeats 2000000 in
set_option maxRecDepth 100000 in
theorem wait_any (A : Option Addr) (n c : Nat) (l : List Blk) (w : World) (h : RdS w A n l) (hn : n ≤ 1000) :
    Calls Tryz.prog 156 #[.slice A n c] w (Queued w l) := by
  have hlen := h.len
  have S1 := fun o => clone_any A n c l _ (h.below ((Below.refl _ _).alloc (Nat.le_refl _) o)) hn
  clear h
  have S2 := byOrder_any
  unfold mSize mLess mSwap mPush mPop at S2
  go_enter Tryz.func156, Tryz.ntmps156
  go_wp2_with (first | (go_at_call 100; refine (S1 _).mono ?_; rintro e w1 ⟨v, rfl, ho, hb⟩; obtain ⟨A1, c1, rfl, _⟩ := ho.shape rfl) | (go_at_call 182; refine (S2 _).mono ?_; rintro e w2 ⟨rfl, G2⟩))
  have s0 := (Below.refl w.heap.size w).alloc (Nat.le_refl _) (.cells #[.pointer none, .nilFunc, .nilFunc, .nilFunc, .nilFunc, .nilFunc] 202)
  have R0 : Whole w1 w.heap.size 202 [.pointer none, .nilFunc, .nilFunc, .nilFunc, .nilFunc, .nilFunc] := (Whole.new w _ _).below hb
  have R1 := ((R0.alloc (.cells #[.slice A1 n c1] 207)).below G2.below).alloc (.cells #[.pointer (some ⟨w1.heap.size, 0, none⟩), mSize, mLess, mSwap, mPush, mPop] 202)
  have G1 := ((Whole.new w1 #[.slice A1 n c1] 207).below G2.below).alloc (.cells #[.pointer (some ⟨w1.heap.size, 0, none⟩), mSize, mLess, mSwap, mPush, mPop] 202)
  have hz0 : (w.alloc (.cells #[.pointer none, .nilFunc, .nilFunc, .nilFunc, .nilFunc, .nilFunc] 202)).heap.size = w.heap.size + 1 := by simp
  rw [hz0] at ho
  have O1 := (ho.below ((Below.refl _ _).alloc (Nat.le_refl _) (.cells #[.slice A1 n c1] 207))).below G2.below
  have Q1 := Whole.new w2 #[.pointer (some ⟨w1.heap.size, 0, none⟩), mSize, mLess, mSwap, mPush, mPop] 202
  have hg1 : w.heap.size < w1.heap.size := Nat.lt_of_lt_of_le (by simp) hb.size
  have hg2 : w1.heap.size < w2.heap.size := Nat.lt_of_lt_of_le (by simp) G2.below.size
  generalize hw3 : w2.alloc (.cells #[.pointer (some ⟨w1.heap.size, 0, none⟩), mSize, mLess, mSwap, mPush, mPop] 202) = w3 at R1 G1 Q1
  have O2 : OwnB 65 w3 w.heap.size (.slice A1 l.length c1) l := by rw [← hw3]; exact (O1.mono (by omega)).below ((Below.refl _ _).alloc (Nat.le_refl _) _)
  have B3 : Below w.heap.size w w3 := by
    rw [← hw3]
    have b1 := ((s0.trans (hb.mono s0.size)).alloc (by omega) (.cells #[.slice A1 n c1] 207)).trans (G2.below.mono (by simp; omega))
    exact b1.alloc (by omega) _
  have z3 : w3.heap.size = w2.heap.size + 1 := by rw [← hw3]; simp
  rw [hlen] at O2
  have O3 := O1.lt
  rw [hlen] at O3
  have QA : QAt w3 w.heap.size w1.heap.size (.slice A1 n c1) l := ⟨G1, O2, by omega⟩
  have T := init_any w.heap.size w1.heap.size _ l w3 QA (by omega)
  rw [qi_open] at T
  unfold mSize mLess mSwap mPush mPop at T hw3 Q1
  rw [hw3]
  refine T.mono ?_
  rintro e w4 ⟨rfl, l4, hp, hh, hq4, hs4⟩
  have K1 := Q1.keep (hs4.block w2.heap.size (by omega) (by omega) (fun e => by have := O3 _ e; omega))
  have K2 := R1.keep (hs4.block w.heap.size (by omega) (by omega) (fun e => by have := O3 _ e; omega))
  have c0 := K1.cell 0
  have c1' := K1.cell 1
  have c2 := K1.cell 2
  have c3 := K1.cell 3
  have c4 := K1.cell 4
  have c5 := K1.cell 5
  have d0 := K2.cell 0
  have d1 := K2.cell 1
  have d2 := K2.cell 2
  have d3 := K2.cell 3
  have d4 := K2.cell 4
  have d5 := K2.cell 5
  have f := K2.free
  have HK := Lib.hid K2
  have HQ := Lib.hid hq4
  have HS := Lib.hid hs4
  have HB := Lib.hid B3
  have HH := Lib.hid hh
  have HO := Lib.hid O3
  have HA := Lib.hid QA
  clear K1 K2 hq4 hs4 B3 hh R0 R1 G1 Q1 QA T O1 O2 O3 s0 ho hb
  go_wp2
  have WF := (((((HK.out.set 0 (.pointer (some ⟨w1.heap.size, 0, none⟩))).set 1 (.func (.methodOf 193 "tumulus/buddy.size") #[] #[])).set 2 (.func (.func 198) #[] #[])).set 3 (.func (.methodOf 193 "tumulus/buddy.swap") #[] #[])).set 4 (.func (.methodOf 193 "tumulus/buddy.push") #[] #[])).set 5 (.func (.methodOf 193 "tumulus/buddy.pop") #[] #[])
  have GF := grown_trans (grown_trans (grown_trans (grown_trans (grown_trans (grown_set w4 w.heap.size 0 (.pointer (some ⟨w1.heap.size, 0, none⟩))) (grown_set _ w.heap.size 1 (.func (.methodOf 193 "tumulus/buddy.size") #[] #[]))) (grown_set _ w.heap.size 2 (.func (.func 198) #[] #[]))) (grown_set _ w.heap.size 3 (.func (.methodOf 193 "tumulus/buddy.swap") #[] #[]))) (grown_set _ w.heap.size 4 (.func (.methodOf 193 "tumulus/buddy.push") #[] #[]))) (grown_set _ w.heap.size 5 (.func (.methodOf 193 "tumulus/buddy.pop") #[] #[]))
  refine bodyPost_ret (results_cell_row rfl _ _ w.heap.size 202 _ (0, 0) _ rfl WF Tryz.underlying202 rfl (by kernel_rfl)) rfl ?_
  have BF := below_grown (HB.out.trans (HS.out.below HA.out (Nat.le_refl _))) GF (Nat.le_trans HB.out.size HS.out.size) (Nat.le_refl _)
  exact ⟨w1.heap.size, _, l4, rfl, ⟨HQ.out.at_.grown GF (by omega), HQ.out.own.grown GF (fun k hk => by have := HO.out k hk; intro e; injection e with e; omega), HQ.out.lo⟩, hp, HH.out, BF⟩
end Go.Proofs.YtlnmmklpccppmaaGreatDoor

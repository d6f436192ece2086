/-
  The queue of free blocks: it is made of a copy, the first one goes out, one comes in: contracts, one a function.
-/
import Derived.Test.YthiijnanfiddpaaDoorBudQ6
import Derived.Laws.EntriesVeiled
namespace Go.Proofs.YthiijnanfiddpaaDoor
open Go.RowKit

theorem Popped.pre {w w1 w2 : World} {base g : Nat} {v : Value} {l : List Blk} {b : Blk} (hb : Below w.heap.size w w1) (h : Popped w1 base g v l b w2) : Popped w base g v l b w2 := by
  obtain ⟨l', v', h1, h2, h3, h4⟩ := h
  exact ⟨l', v', h1, h2, h3, h4.1, (QStep.of_below hb g v).trans h4.2⟩
theorem Popped.post {w w1 w2 : World} {base g : Nat} {v : Value} {l : List Blk} {b : Blk} (h : Popped w base g v l b w1) (hb : Below w1.heap.size w1 w2) : Popped w base g v l b w2 := by
  obtain ⟨l', v', h1, h2, h3, h4⟩ := h
  exact ⟨l', v', h1, h2, h3, h4.below hb⟩
theorem Popped.keeps {w w1 : World} {base g : Nat} {v : Value} {l : List Blk} {b : Blk} (h : Popped w base g v l b w1) {k : Nat} (hk : k < w.heap.size) (hg : k ≠ g) (hv : v.ownBlock ≠ some k) : w1.heap[k]? = w.heap[k]? := by
  obtain ⟨l', v', _, _, _, h4⟩ := h
  exact h4.2.block k hk hg hv
/-- Behind it a block r of the call's own is written. -/
theorem Waits.beside {w W w1 w2 : World} {base g r : Nat} {v v' : Value} {l : List Blk} (hB : Below w.heap.size w W) (h : Waits W base g v l v' w1) (hr : w.heap.size ≤ r) (hrW : r < W.heap.size) (hg : r ≠ g) (hv : v.ownBlock ≠ some r) (h2 : w1.grownBy w2 (some r)) : Waits w base g v l v' w2 := by
  have hv' : v'.ownBlock ≠ some r := by
    rcases h.2.own with e | ⟨k, e, hk⟩
    · rw [e]; exact hv
    · rw [e]; intro e2; injection e2 with e2; omega
  have hs := hB.size
  have hs1 := h.2.size
  refine ⟨⟨h.1.at_.grown h2 (fun e => hg e.symm), h.1.own.grown h2 (fun k hk => by rintro e; injection e with e; exact hv' (e ▸ hk)), h.1.lo⟩, ?_⟩
  refine ⟨h2.os.trans (h.2.os.trans hB.os), h2.tape.trans (h.2.tape.trans hB.tape), h2.output.trans (h.2.output.trans hB.output), Nat.le_trans hs (Nat.le_trans hs1 h2.size), fun k hk hkg hkv => ?_, ?_⟩
  · rw [h2.block k (by omega) (by intro e; injection e with e; omega), h.2.block k (by omega) hkg hkv, hB.block k hk]
  · rcases h.2.own with e | ⟨k, e, hk⟩
    · exact .inl e
    · exact .inr ⟨k, e, by omega⟩
theorem Popped.beside {w W w1 w2 : World} {base g r : Nat} {v : Value} {l : List Blk} {b : Blk} (hB : Below w.heap.size w W) (h : Popped W base g v l b w1) (hr : w.heap.size ≤ r) (hrW : r < W.heap.size) (hg : r ≠ g) (hv : v.ownBlock ≠ some r) (h2 : w1.grownBy w2 (some r)) : Popped w base g v l b w2 := by
  obtain ⟨l', v', e1, e2, e3, h4⟩ := h
  exact ⟨l', v', e1, e2, e3, h4.beside hB hr hrW hg hv h2⟩
/-- A block of two cells that is kept: what a walk asks of it. -/
theorem kept_cells {w : World} {r : Nat} {x y : Value} {t : TypeId} (h : Whole w r t [x, y]) : (∀ o, (w.alloc o).cell? ⟨r, 0, none⟩ = some x) ∧ (∀ o, (w.alloc o).cell? ⟨r, 1, none⟩ = some y) ∧ ∀ o j, (w.alloc o).frozen? ⟨r, j, none⟩ = false :=
  ⟨fun o => (h.alloc o).cell 0, fun o => (h.alloc o).cell 1, fun o j => (h.alloc o).free j⟩
theorem qi_open (g : Nat) : qi g = .iface 66 (.agg #[.pointer (some ⟨g, 0, none⟩), mSize, mLess, mSwap, mPush, mPop]) := rfl

set_option maxRecDepth 100000 in
set_option maxHeartbeats 2000000 in
theorem qnext_any (base g : Nat) (v : Value) (l : List Blk) (n : Nat) (w : World) (h : QAt w base g v l) (hn : l.length = n + 1) (hl : n + 1 ≤ 1000) (hh : HeapFrom l l.length 0) :
    Calls Tryd.prog 39 #[qv g] w fun e w' => e = .returned (bval (nth l 0)) ∧ Popped w base g v l (nth l 0) w' := by
  have hB := fun o o' => ((Below.refl w.heap.size w).alloc (Nat.le_refl _) o).alloc (by simp) o'
  have S := fun o o' => hpop_any base g v l n _ (h.below (hB o o')) hn hl hh
  have hA := run_assert
  obtain ⟨⟨x, o⟩, hx⟩ : ∃ x, x = nth l 0 := ⟨_, rfl⟩
  rw [← hx] at S ⊢
  rw [qi_open] at S
  have HB := Lib.hid hB
  have HK := Lib.hid (fun (o : Obj) => show Whole ((w.alloc o).alloc (.cells #[.int .i64 0, .int .i64 0] 32)) (w.heap.size + 1) 32 [.int .i64 0, .int .i64 0] from by
    have := Whole.new (w.alloc o) #[.int .i64 0, .int .i64 0] 32
    simpa using this)
  have HG := Lib.hid (show g < w.heap.size ∧ ∀ k, v.ownBlock = some k → k < w.heap.size from ⟨h.at_.lt, fun k hk => (h.own.lt k hk).2⟩)
  clear h hx hB
  unfold bval enc2 at *
  simp only at *
  unfold qv qcs
  go_enter Tryd.func39, Tryd.ntmps39
  go_wp2_with (go_at_call 59; refine (S _ _).mono ?_; rintro e w1 ⟨rfl, hp⟩; have W1 := Lib.hid ((HK.out _).keep (hp.keeps (k := w.heap.size + 1) (by simp) (by have := HG.out.1; omega) (fun e => by have := HG.out.2 _ e; omega))); obtain ⟨c0, c1, f0⟩ := kept_cells W1.out)
  have W2 := ((W1.out.alloc (.cells #[.int .i64 x, .int .i64 o] 32)).set 0 (.int .i64 x)).set 1 (.int .i64 o)
  have G2 := grown_trans (grown_trans (grown_below ((Below.refl w1.heap.size w1).alloc (Nat.le_refl _) (.cells #[.int .i64 x, .int .i64 o] 32)) (some (w.heap.size + 1))) (grown_set _ (w.heap.size + 1) 0 (.int .i64 x))) (grown_set _ (w.heap.size + 1) 1 (.int .i64 o))
  refine bodyPost_ret (results_box (b := (x, o)) rfl _ _ (w.heap.size + 1) rfl (W2.cell 0) (W2.cell 1)) rfl ?_
  exact ⟨rfl, hp.beside (HB.out _ _) (by omega) (by simp) (by have := HG.out.1; omega) (fun e => by have := HG.out.2 _ e; omega) G2⟩

set_option maxRecDepth 100000 in
set_option maxHeartbeats 2000000 in
theorem qadd_any (base g : Nat) (v : Value) (l : List Blk) (b : Blk) (w : World) (h : QAt w base g v l) (hl : l.length ≤ 1000) (hb : base ≤ w.heap.size) (hh : HeapFrom l l.length 0) :
    Calls Tryd.prog 46 #[qv g, bval b] w fun e w' => e = .returned (.tuple #[]) ∧ ∃ l' v', Made w base g v (l ++ [b]) l' v' w' := by
  have hB := fun o o' => ((Below.refl w.heap.size w).alloc (Nat.le_refl _) o).alloc (by simp) o'
  have S := fun o o' => hpush_any base g v l b _ (h.below (hB o o')) hl (Nat.le_trans hb (hB o o').size) hh
  rw [qi_open] at S
  obtain ⟨x, o⟩ := b
  have HB := Lib.hid hB
  clear h hB
  unfold bval enc2 at *
  simp only at *
  unfold qv qcs
  go_enter Tryd.func46, Tryd.ntmps46
  go_wp2_with (go_at_call 63; refine (S _ _).mono ?_; rintro e w1 ⟨rfl, l', v', h1, h2, h3⟩)
  go_end0
  exact ⟨rfl, l', v', h1, h2, h3.1, (QStep.of_below (HB.out _ _) g v).trans h3.2⟩

set_option maxHeartbeats 400000 in
theorem byOrder_any (w : World) : Calls Tryd.prog 57 #[] w (Says w (.agg #[mSize, mLess, mSwap, mPush, mPop])) := by
  have W1 := Whole.new w #[mSize, mLess, mSwap, mPush, mPop] 64
  unfold mSize mSwap mPush mPop mLess at *
  go_enter Tryd.func57, Tryd.ntmps57
  go_wp2
  refine bodyPost_ret (results_cell_row rfl _ _ w.heap.size 64 _ (0, 0) _ rfl W1 Tryd.underlying64 rfl (by kernel_rfl)) rfl ?_
  exact ⟨rfl, grew_one w _⟩

set_option maxRecDepth 100000 in
set_option maxHeartbeats 400000 in
/-- slices.Clone of blocks. -/
theorem clone_any (A : Option Addr) (n c : Nat) (l : List Blk) (w : World) (h : RdS w A n l) (hn : n ≤ 1000) :
    Calls Tryd.prog 56 #[.slice A n c] w fun e w' => ∃ v, e = .returned v ∧ OwnB 32 w' w.heap.size v l ∧ Below w.heap.size w w' := by
  cases A with
  | none =>
    have h0 : n = 0 := by
      rcases Nat.eq_zero_or_pos n with h0 | h0
      · exact h0
      · obtain ⟨_, _, e, _⟩ := h.at_ h0
        cases e
    subst h0
    obtain rfl : l = [] := List.eq_nil_of_length_eq_zero h.len
    have q : ∀ W : World, (binOp .eql 22 (.slice none 0 c) (.slice none 0 0)).run Tryd.prog W = .ok (.bool true) W := fun W => run_isnil W _ _ _ _ _ Tryd.underlying22
    go_enter Tryd.func56, Tryd.ntmps56
    go_wp2
    go_ret
    exact ⟨_, rfl, OwnB.nil, Below.refl _ _⟩
  | some a =>
    have hB := (Below.refl w.heap.size w).alloc (Nat.le_refl _) (.cells #[] 32)
    have ho : OwnB 32 (w.alloc (.cells #[] 32)) w.heap.size (.slice (some ⟨w.heap.size, 0, none⟩) 0 0) [] := ⟨rfl, .inr ⟨w.heap.size, 0, #[], rfl, Nat.le_refl _, heap_alloc_new w _, Nat.le_refl _, by simp [maxLen], rfl, rfl⟩⟩
    obtain ⟨v', w', hap, happ⟩ := run_appB (P := Tryd.prog) w.heap.size 22 22 32 Tryd.underlying22 Tryd.infoBlk rfl _ [] ho (some a) n c l (h.below hB) (by simp; omega) hB.size
    rw [List.nil_append] at happ
    have hb2 := happ.below ho (Nat.le_refl _) hB.size hB
    have Ho := Lib.hid happ.1
    have q : ∀ W : World, (binOp .eql 22 (.slice (some a) n c) (.slice none 0 0)).run Tryd.prog W = .ok (.bool false) W := fun W => run_isnil W _ _ _ _ _ Tryd.underlying22
    clear h happ ho
    go_enter Tryd.func56, Tryd.ntmps56
    go_wp2_with (at_builtin; refine wpList_append_run hap rfl _ _ rfl rfl rfl rfl ?_)
    go_ret
    exact ⟨_, rfl, Ho.out, hb2⟩

/-- A queue of these blocks, in memory of the call's own. -/
def Queued (w : World) (l : List Blk) (e : Ending) (w' : World) : Prop :=
  ∃ g v l', e = .returned (qv g) ∧ QAt w' w.heap.size g v l' ∧ l'.Perm l ∧ HeapFrom l' l'.length 0 ∧ Below w.heap.size w w'
set_option maxHeartbeats 2000000 in
set_option maxRecDepth 100000 in
theorem wait_any (A : Option Addr) (n c : Nat) (l : List Blk) (w : World) (h : RdS w A n l) (hn : n ≤ 1000) :
    Calls Tryd.prog 38 #[.slice A n c] w (Queued w l) := by
  have hlen := h.len
  have S1 := fun o => clone_any A n c l _ (h.below ((Below.refl _ _).alloc (Nat.le_refl _) o)) hn
  clear h
  have S2 := byOrder_any
  unfold mSize mLess mSwap mPush mPop at S2
  go_enter Tryd.func38, Tryd.ntmps38
  go_wp2_with (first | (go_at_call 56; refine (S1 _).mono ?_; rintro e w1 ⟨v, rfl, ho, hb⟩; obtain ⟨A1, c1, rfl, _⟩ := ho.shape rfl) | (go_at_call 57; refine (S2 _).mono ?_; rintro e w2 ⟨rfl, G2⟩))
  have s0 := (Below.refl w.heap.size w).alloc (Nat.le_refl _) (.cells #[.pointer none, .nilFunc, .nilFunc, .nilFunc, .nilFunc, .nilFunc] 66)
  have R0 : Whole w1 w.heap.size 66 [.pointer none, .nilFunc, .nilFunc, .nilFunc, .nilFunc, .nilFunc] := (Whole.new w _ _).below hb
  have R1 := ((R0.alloc (.cells #[.slice A1 n c1] 71)).below G2.below).alloc (.cells #[.pointer (some ⟨w1.heap.size, 0, none⟩), mSize, mLess, mSwap, mPush, mPop] 66)
  have G1 := ((Whole.new w1 #[.slice A1 n c1] 71).below G2.below).alloc (.cells #[.pointer (some ⟨w1.heap.size, 0, none⟩), mSize, mLess, mSwap, mPush, mPop] 66)
  have hz0 : (w.alloc (.cells #[.pointer none, .nilFunc, .nilFunc, .nilFunc, .nilFunc, .nilFunc] 66)).heap.size = w.heap.size + 1 := by simp
  rw [hz0] at ho
  have O1 := (ho.below ((Below.refl _ _).alloc (Nat.le_refl _) (.cells #[.slice A1 n c1] 71))).below G2.below
  have Q1 := Whole.new w2 #[.pointer (some ⟨w1.heap.size, 0, none⟩), mSize, mLess, mSwap, mPush, mPop] 66
  have hg1 : w.heap.size < w1.heap.size := Nat.lt_of_lt_of_le (by simp) hb.size
  have hg2 : w1.heap.size < w2.heap.size := Nat.lt_of_lt_of_le (by simp) G2.below.size
  generalize hw3 : w2.alloc (.cells #[.pointer (some ⟨w1.heap.size, 0, none⟩), mSize, mLess, mSwap, mPush, mPop] 66) = w3 at R1 G1 Q1
  have O2 : OwnB 32 w3 w.heap.size (.slice A1 l.length c1) l := by rw [← hw3]; exact (O1.mono (by omega)).below ((Below.refl _ _).alloc (Nat.le_refl _) _)
  have B3 : Below w.heap.size w w3 := by
    rw [← hw3]
    have b1 := ((s0.trans (hb.mono s0.size)).alloc (by omega) (.cells #[.slice A1 n c1] 71)).trans (G2.below.mono (by simp; omega))
    exact b1.alloc (by omega) _
  have z3 : w3.heap.size = w2.heap.size + 1 := by rw [← hw3]; simp
  rw [hlen] at O2
  have O3 := O1.lt
  rw [hlen] at O3
  have QA : QAt w3 w.heap.size w1.heap.size (.slice A1 n c1) l := ⟨G1, O2, by omega⟩
  have T := init_any w.heap.size w1.heap.size _ l w3 QA (by omega)
  rw [qi_open] at T
  unfold mSize mLess mSwap mPush mPop at T hw3 Q1
  rw [hw3]
  refine T.mono ?_
  rintro e w4 ⟨rfl, l4, hp, hh, hq4, hs4⟩
  have K1 := Q1.keep (hs4.block w2.heap.size (by omega) (by omega) (fun e => by have := O3 _ e; omega))
  have K2 := R1.keep (hs4.block w.heap.size (by omega) (by omega) (fun e => by have := O3 _ e; omega))
  have c0 := K1.cell 0
  have c1' := K1.cell 1
  have c2 := K1.cell 2
  have c3 := K1.cell 3
  have c4 := K1.cell 4
  have c5 := K1.cell 5
  have d0 := K2.cell 0
  have d1 := K2.cell 1
  have d2 := K2.cell 2
  have d3 := K2.cell 3
  have d4 := K2.cell 4
  have d5 := K2.cell 5
  have f := K2.free
  have HK := Lib.hid K2
  have HQ := Lib.hid hq4
  have HS := Lib.hid hs4
  have HB := Lib.hid B3
  have HH := Lib.hid hh
  have HO := Lib.hid O3
  have HA := Lib.hid QA
  clear K1 K2 hq4 hs4 B3 hh R0 R1 G1 Q1 QA T O1 O2 O3 s0 ho hb
  go_wp2
  have WF := (((((HK.out.set 0 (.pointer (some ⟨w1.heap.size, 0, none⟩))).set 1 (.func (.methodOf 57 "tumulus/buddy.size") #[] #[])).set 2 (.func (.func 70) #[] #[])).set 3 (.func (.methodOf 57 "tumulus/buddy.swap") #[] #[])).set 4 (.func (.methodOf 57 "tumulus/buddy.push") #[] #[])).set 5 (.func (.methodOf 57 "tumulus/buddy.pop") #[] #[])
  have GF := grown_trans (grown_trans (grown_trans (grown_trans (grown_trans (grown_set w4 w.heap.size 0 (.pointer (some ⟨w1.heap.size, 0, none⟩))) (grown_set _ w.heap.size 1 (.func (.methodOf 57 "tumulus/buddy.size") #[] #[]))) (grown_set _ w.heap.size 2 (.func (.func 70) #[] #[]))) (grown_set _ w.heap.size 3 (.func (.methodOf 57 "tumulus/buddy.swap") #[] #[]))) (grown_set _ w.heap.size 4 (.func (.methodOf 57 "tumulus/buddy.push") #[] #[]))) (grown_set _ w.heap.size 5 (.func (.methodOf 57 "tumulus/buddy.pop") #[] #[]))
  refine bodyPost_ret (results_cell_row rfl _ _ w.heap.size 66 _ (0, 0) _ rfl WF Tryd.underlying66 rfl (by kernel_rfl)) rfl ?_
  have BF := below_grown (HB.out.trans (HS.out.below HA.out (Nat.le_refl _))) GF (Nat.le_trans HB.out.size HS.out.size) (Nat.le_refl _)
  exact ⟨w1.heap.size, _, l4, rfl, ⟨HQ.out.at_.grown GF (by omega), HQ.out.own.grown GF (fun k hk => by have := HO.out k hk; intro e; injection e with e; omega), HQ.out.lo⟩, hp, HH.out, BF⟩
end Go.Proofs.YthiijnanfiddpaaDoor

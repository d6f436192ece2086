/-
  Whether free blocks are right, by the document: contract of Right.
  What the heap of blocks that wait does: contracts, one a function.
  What the heap of blocks that wait does, further: one comes, one goes, and the calls by which the library asks: contracts, one a function.
-/
import Derived.Test.YtlnmmklpccppmaaGreatDoorTg7
import Derived.Test.YtlnmmklpccppmaaGreatDoorTg4
import Derived.BigRegion
import Derived.Test.YtlnmmklpccppmaaGreatDoorTg5
import Derived.Deep.AppendLies
import Derived.Deep.RegionLaw
namespace Go.Proofs.YtlnmmklpccppmaaGreatDoor
open Go.RowKit
theorem OwnB.rd {U : TypeId} {w : World} {base : Nat} {v : Value} {l : List Blk} (h : OwnB U w base v l) : ∃ A c, v = .slice A l.length c ∧ RdS w A l.length l := by
  obtain ⟨A, c, hv, _, _, r, _⟩ := h.shape rfl
  exact ⟨A, c, hv, r⟩
theorem OwnB.rdn {U : TypeId} {w : World} {base n : Nat} {v : Value} {l : List Blk} (h : OwnB U w base v l) (hn : l.length = n) : ∃ A c, v = .slice A n c ∧ RdS w A n l := by
  subst hn
  exact h.rd
end Go.Proofs.YtlnmmklpccppmaaGreatDoor
namespace Go.Proofs.YtlnmmklpccppmaaGreatDoor
open Go.RowKit
/-- The methods by which blocks wait. -/
def mSize : Value := .func (.methodOf 193 "tumulus/buddy.size") #[] #[]
def mSwap : Value := .func (.methodOf 193 "tumulus/buddy.swap") #[] #[]
def mPush : Value := .func (.methodOf 193 "tumulus/buddy.push") #[] #[]
def mPop : Value := .func (.methodOf 193 "tumulus/buddy.pop") #[] #[]
def mLess : Value := .func (.func 198) #[] #[]
/-- The cells of a queue. -/
def qcs (g : Nat) : List Value := [.pointer (some ⟨g, 0, none⟩), mSize, mLess, mSwap, mPush, mPop]
theorem run_mSize (g : Nat) (W : World) : Sem.run Tryz.prog (method 376 193 (.pointer (some ⟨g, 0, none⟩)) "tumulus/buddy.size") W = .ok (197, .pointer (some ⟨g, 0, none⟩)) W := by kernel_rfl
theorem run_mSwap (g : Nat) (W : World) : Sem.run Tryz.prog (method 376 193 (.pointer (some ⟨g, 0, none⟩)) "tumulus/buddy.swap") W = .ok (199, .pointer (some ⟨g, 0, none⟩)) W := by kernel_rfl
theorem run_mPush (g : Nat) (W : World) : Sem.run Tryz.prog (method 376 193 (.pointer (some ⟨g, 0, none⟩)) "tumulus/buddy.push") W = .ok (200, .pointer (some ⟨g, 0, none⟩)) W := by kernel_rfl
theorem run_mPop (g : Nat) (W : World) : Sem.run Tryz.prog (method 376 193 (.pointer (some ⟨g, 0, none⟩)) "tumulus/buddy.pop") W = .ok (201, .pointer (some ⟨g, 0, none⟩)) W := by kernel_rfl
set_option maxHeartbeats 400000 in
theorem size_any (g n c : Nat) (A : Option Addr) (w : World) (h : Whole w g 207 [.slice A n c]) :
    Calls Tryz.prog 197 #[.pointer (some ⟨g, 0, none⟩)] w (Says w (.int .i64 (n : Int))) := by
  have c0 := h.cell 0
  go_enter Tryz.func197, Tryz.ntmps197
  go_wp2
  go_ret
  exact ⟨rfl, Grew.refl _⟩
/-- What waits: block g is the struct, whose list is v, of the call's own. -/
structure QAt (w : World) (base g : Nat) (v : Value) (l : List Blk) : Prop where
  at_ : Whole w g 207 [v]
  own : OwnB 65 w base v l
  lo : base ≤ g
theorem QAt.below {w w' : World} {base g : Nat} {v : Value} {l : List Blk} (h : QAt w base g v l) (b : Below w.heap.size w w') : QAt w' base g v l := ⟨h.at_.below b, h.own.below b, h.lo⟩
theorem QAt.ne {w : World} {base g n c : Nat} {A : Addr} {l : List Blk} (h : QAt w base g (.slice (some A) n c) l) : A.block ≠ g := by
  obtain ⟨h1, h2, _⟩ := h
  rcases h2.2 with ⟨e, _⟩ | ⟨g', cap, cur, e, _, hh, _⟩
  · cases e
  · injection e with e _ _
    injection e with e
    subst e
    rintro rfl
    unfold Whole at h1
    rw [hh] at h1
    injection h1 with h1
    injection h1 with _ ht
    exact absurd ht (by decide)
theorem two_allocs {w : World} {p : Addr} {v : Value} (hp : p.block < w.heap.size) (h : w.cell? p = some v) : (∀ o, (w.alloc o).cell? p = some v) ∧ ∀ o o', ((w.alloc o).alloc o').cell? p = some v := by
  have e : ∀ o, (w.alloc o).cell? p = some v := fun o => (((Below.refl w.heap.size w).alloc (Nat.le_refl _) o).cell (p := p) hp).trans h
  exact ⟨e, fun o o' => ((((Below.refl w.heap.size w).alloc (Nat.le_refl _) o).alloc (by simp) o').cell (p := p) hp).trans h⟩
set_option maxHeartbeats 1000000 in
theorem less_any (base g : Nat) (v : Value) (l : List Blk) (i j : Nat) (w : World) (h : QAt w base g v l) (hi : i < l.length) (hj : j < l.length) :
    Calls Tryz.prog 198 #[.pointer (some ⟨g, 0, none⟩), .int .i64 (i : Int), .int .i64 (j : Int)] w (Says w (.bool (lessB (nth l i) (nth l j)))) := by
  have c := h.at_.cell 0
  obtain ⟨n, hn⟩ : ∃ n, n = l.length := ⟨_, rfl⟩
  obtain ⟨r, cap, rfl, _, hr, _, _⟩ := h.own.form hn.symm (by omega)
  have hg := h.at_.lt
  obtain ⟨a0, a1⟩ := h.own.cell hn.symm (nth_get hi)
  obtain ⟨b0, b1⟩ := h.own.cell hn.symm (nth_get hj)
  obtain ⟨⟨x, o⟩, hx⟩ : ∃ x, x = nth l i := ⟨_, rfl⟩
  obtain ⟨⟨y, p⟩, hy⟩ : ∃ x, x = nth l j := ⟨_, rfl⟩
  rw [← hx] at a0 a1 ⊢
  rw [← hy] at b0 b1 ⊢
  rw [← hn] at hi hj
  unfold lessB
  simp only at *
  clear hx hy h hn
  obtain ⟨c', c''⟩ := two_allocs (p := ⟨g, 0, none⟩) hg c
  obtain ⟨a0', a0''⟩ := two_allocs (p := ⟨r, i * 2, none⟩) hr a0
  obtain ⟨a1', a1''⟩ := two_allocs (p := ⟨r, i * 2 + 1, none⟩) hr a1
  obtain ⟨b0', b0''⟩ := two_allocs (p := ⟨r, j * 2, none⟩) hr b0
  obtain ⟨b1', b1''⟩ := two_allocs (p := ⟨r, j * 2 + 1, none⟩) hr b1
  have k1 : (i : Int) < (n : Int) := by omega
  have k2 : (j : Int) < (n : Int) := by omega
  by_cases e : o = p
  · subst e
    go_enter Tryz.func198, Tryz.ntmps198
    go_wp2_with fail
    go_region
    all_goals
      go_wp2
      go_ret
      exact ⟨by simp, (((Grew.refl w).alloc _).alloc _).drew⟩
  · have e2 : (o == p) = false := by simpa using e
    go_enter Tryz.func198, Tryz.ntmps198
    go_wp2_with fail
    go_region
    all_goals
      go_wp2
      go_ret
      exact ⟨by simp [e2], (((Grew.refl w).alloc _).alloc _).drew⟩
/-- What a call that works on what waits leaves beside it: all else as it was. -/
structure QStep (w w' : World) (g : Nat) (v v' : Value) : Prop where
  os : w'.os = w.os
  tape : w'.tape = w.tape
  output : w'.output = w.output
  size : w.heap.size ≤ w'.heap.size
  block : ∀ k, k < w.heap.size → k ≠ g → v.ownBlock ≠ some k → w'.heap[k]? = w.heap[k]?
  own : v'.ownBlock = v.ownBlock ∨ ∃ k, v'.ownBlock = some k ∧ w.heap.size ≤ k
theorem QStep.of_below {w w' : World} (h : Below w.heap.size w w') (g : Nat) (v : Value) : QStep w w' g v v := ⟨h.os, h.tape, h.output, h.size, fun k hk _ _ => h.block k hk, .inl rfl⟩
theorem QStep.of_grown {w w' : World} {v : Value} (h : w.grownBy w' v.ownBlock) (g : Nat) : QStep w w' g v v := ⟨h.os, h.tape, h.output, h.size, fun k hk _ hv => h.block k hk (fun e => hv e.symm), .inl rfl⟩
theorem QStep.trans {a b c : World} {g : Nat} {u v x : Value} (h : QStep a b g u v) (k : QStep b c g v x) : QStep a c g u x where
  os := k.os.trans h.os
  tape := k.tape.trans h.tape
  output := k.output.trans h.output
  size := Nat.le_trans h.size k.size
  block := fun i hi hg hu => by
    refine (k.block i (Nat.lt_of_lt_of_le hi h.size) hg ?_).trans (h.block i hi hg hu)
    rcases h.own with e | ⟨m, e, hm⟩
    · rw [e]; exact hu
    · rw [e]
      intro e2
      injection e2 with e2
      omega
  own := by
    rcases k.own with e | ⟨m, e, hm⟩
    · rw [e]; exact h.own
    · exact .inr ⟨m, e, Nat.le_trans h.size hm⟩
theorem QStep.below {a b : World} {base g : Nat} {v v' : Value} {l : List Blk} (h : QStep a b g v v') (q : QAt a base g v l) {B : Nat} (hB : B ≤ base) : Below B a b := 
  ⟨h.os, h.tape, h.output, h.size, fun k hk => h.block k (by have := q.at_.lt; have := q.lo; omega) (by have := q.lo; omega) fun e => by have := q.own.lt k e; omega⟩
/-- What a call that works on what waits leaves. -/
def Waits (w : World) (base g : Nat) (v : Value) (l : List Blk) (v' : Value) (w' : World) : Prop := QAt w' base g v' l ∧ QStep w w' g v v'
set_option maxHeartbeats 2000000 in
theorem swap_any (base g : Nat) (v : Value) (l : List Blk) (i j : Nat) (w : World) (h : QAt w base g v l) (hi : i < l.length) (hj : j < l.length) :
    Calls Tryz.prog 199 #[.pointer (some ⟨g, 0, none⟩), .int .i64 (i : Int), .int .i64 (j : Int)] w fun e w' => e = .returned (.tuple #[]) ∧ Waits w base g v (swp2 l i j) v w' := by
  have c := h.at_.cell 0
  have hg := h.at_.lt
  obtain ⟨n, hn⟩ : ∃ n, n = l.length := ⟨_, rfl⟩
  obtain ⟨r, cap, rfl, _, hr, _, _⟩ := h.own.form hn.symm (by omega)
  obtain ⟨a0, a1⟩ := h.own.cell hn.symm (nth_get hi)
  obtain ⟨b0, b1⟩ := h.own.cell hn.symm (nth_get hj)
  have f := h.own.free hn.symm
  obtain ⟨⟨x, o⟩, hx⟩ : ∃ x, x = nth l i := ⟨_, rfl⟩
  obtain ⟨⟨y, p⟩, hy⟩ : ∃ x, x = nth l j := ⟨_, rfl⟩
  rw [← hx] at a0 a1
  rw [← hy] at b0 b1
  simp only at *
  have k1 : (i : Int) < (n : Int) := by omega
  have k2 : (j : Int) < (n : Int) := by omega
  have H := Lib.hid h
  have hne : r ≠ g := h.ne
  obtain ⟨u1, f1⟩ := cell?_setCell_some (w := w) (p := ⟨r, i * 2, none⟩) (x := .int .i64 y) (q := ⟨r, j * 2, none⟩) b0
  obtain ⟨u2', f2'⟩ := cell?_setCell_some (w := w) (p := ⟨r, i * 2, none⟩) (x := .int .i64 y) (q := ⟨r, j * 2 + 1, none⟩) b1
  obtain ⟨u2, f2⟩ := cell?_setCell_some (p := ⟨r, i * 2 + 1, none⟩) (x := .int .i64 p) (q := ⟨r, j * 2 + 1, none⟩) f2'
  obtain ⟨u3, f3⟩ := cell?_setCell_some (w := w) (p := ⟨r, j * 2, none⟩) (x := .int .i64 x) (q := ⟨r, i * 2, none⟩) a0
  obtain ⟨u4', f4'⟩ := cell?_setCell_some (w := w) (p := ⟨r, j * 2, none⟩) (x := .int .i64 x) (q := ⟨r, i * 2 + 1, none⟩) a1
  obtain ⟨u4, f4⟩ := cell?_setCell_some (p := ⟨r, j * 2 + 1, none⟩) (x := .int .i64 o) (q := ⟨r, i * 2 + 1, none⟩) f4'
  clear h
  go_enter Tryz.func199, Tryz.ntmps199
  go_wp2_with fail
  go_region
  go_end0
  have hg1 := grown_trans (grown_trans (grown_trans (grown_set w r (i * 2) (.int .i64 y)) (grown_set _ r (i * 2 + 1) (.int .i64 p))) (grown_set _ r (j * 2) (.int .i64 x))) (grown_set _ r (j * 2 + 1) (.int .i64 o))
  have o1 := (H.out.own.set hn.symm i (y, p)).set (by rw [List.length_set]; exact hn.symm) j (x, o)
  have e : (l.set i (y, p)).set j (x, o) = swp2 l i j := by rw [hx, hy]; rfl
  rw [e] at o1
  have hg2 := grown_trans hg1 (grown_below ((Below.refl _ _).drew) (some r))
  exact ⟨rfl, ⟨H.out.at_.grown hg2 (fun e => hne e.symm), o1.drew, H.out.lo⟩, QStep.of_grown hg2 g⟩
end Go.Proofs.YtlnmmklpccppmaaGreatDoor
namespace Go.Proofs.YtlnmmklpccppmaaGreatDoor
open Go.RowKit
theorem Tryz.infoBlk : (Tryz.prog.info? 65).map (fun i => (i.zero, i.size, i.bytes)) = some (some (.agg #[.int .i64 0, .int .i64 0]), 2, 16) := by kernel_rfl
/-- An append whose run is known, as a step of a region that draws. -/
theorem step_append_run {P : Program} {ops : Array Oper} {o : Oper} {a : Act} {w w' : World} {K : Act → World → Prop} {Q : Exit → Act → World → Prop} {E : Prop} {v y v' : Value} {t u ty : TypeId}
    (hrun : (Builtin.append_ #[t, u] ty #[v, y]).run P w = .ok v' w') (hgd : o.guard = none) (s x : Operand)
    (ho : o.op = .call { callee := .builtin .append, args := #[s, x], argTypes := #[t, u] }) (hty : o.type = ty) (hs : a.eval s = v) (hx : a.eval x = y)
    (hK : K (a.put o.dst v') w') : if Region.wanted o (yielded ops a.tmps) = true then Oper.wp P o a w K Q else E := by
  have hw : Region.wanted o (yielded ops a.tmps) = true := by simp [Region.wanted, hgd]
  rw [if_pos hw]
  subst hty
  unfold Oper.wp execOp
  simp only [ho, resolve, invoke, builtin, Sem.run_bind, Sem.run_pure, Result.andThen_ok, List.map_toArray, List.map_cons, List.map_nil, hs, hx, hrun]
  exact hK
theorem QAt.off {w : World} {base g : Nat} {v : Value} {l : List Blk} (h : QAt w base g v l) : v.ownBlock ≠ some g := by
  intro e
  rcases h.own.2 with ⟨e2, _⟩ | ⟨g', cap, cur, e2, _, hh, _⟩
  · rw [e2] at e; cases e
  · rw [e2] at e
    injection e with e
    have h3 := h.at_
    unfold Whole at h3
    rw [← e, hh] at h3
    injection h3 with h3
    injection h3 with _ ht
    exact absurd ht (by decide)
theorem Waits.below {w w1 w2 : World} {base g : Nat} {v v' : Value} {l : List Blk} (h : Waits w base g v l v' w1) (b : Below w1.heap.size w1 w2) : Waits w base g v l v' w2 := ⟨h.1.below b, h.2.trans (QStep.of_below b g v')⟩
theorem Waits.trans {w w1 w2 : World} {base g : Nat} {v v' v'' : Value} {l m : List Blk} (h : Waits w base g v l v' w1) (k : Waits w1 base g v' m v'' w2) : Waits w base g v m v'' w2 := ⟨k.1, h.2.trans k.2⟩
theorem QAt.waits {w w1 : World} {base g : Nat} {v : Value} {l : List Blk} (h : QAt w base g v l) (b : Below w.heap.size w w1) : Waits w base g v l v w1 := ⟨h.below b, QStep.of_below b g v⟩
/-- A new list is stored. -/
theorem waits_store {w w1 w2 : World} {base g : Nat} {v v' : Value} {l m : List Blk} (h : QAt w base g v l) (hB : Below w.heap.size w w1) (ho : OwnB 65 w2 base v' m) (hg : w1.grownBy w2 v.ownBlock)
    (hv : v'.ownBlock = v.ownBlock ∨ ∃ k, v'.ownBlock = some k ∧ w1.heap.size ≤ k) : Waits w base g v m v' (w2.setCell ⟨g, 0, none⟩ v') := by
  have h1 := h.below hB
  have hlt := h.at_.lt
  have hne := h.off
  have W2 : Whole w2 g 207 [v] := h1.at_.keep (hg.block g h1.at_.lt fun e => hne e.symm)
  have hs := hB.size
  have hs2 := hg.size
  have hne' : v'.ownBlock ≠ some g := by
    rcases hv with e | ⟨k, e, hk⟩
    · rw [e]; exact hne
    · rw [e]; intro e2; injection e2 with e2; omega
  refine ⟨⟨W2.set 0 v', ho.keep fun k hk => heap_setCell_other w2 ⟨g, 0, none⟩ k v' (by rintro rfl; exact hne' hk), h.lo⟩, ?_⟩
  refine ⟨hg.os.trans hB.os, hg.tape.trans hB.tape, hg.output.trans hB.output, by simp [World.setCell]; omega, fun k hk hkg hkv => ?_, ?_⟩
  · rw [heap_setCell_other w2 ⟨g, 0, none⟩ k v' hkg, hg.block k (by omega) (fun e => hkv e.symm), hB.block k hk]
  · rcases hv with e | ⟨k, e, hk⟩
    · exact .inl e
    · exact .inr ⟨k, e, by omega⟩
set_option maxHeartbeats 2000000 in
theorem push_any (base g : Nat) (v : Value) (l : List Blk) (b : Blk) (w : World) (h : QAt w base g v l) (hl : l.length ≤ 1000) (hb : base ≤ w.heap.size) :
    Calls Tryz.prog 200 #[.pointer (some ⟨g, 0, none⟩), bval b] w fun e w' => e = .returned (.tuple #[]) ∧ ∃ v', Waits w base g v (l ++ [b]) v' w' := by
  have hB := (Below.refl w.heap.size w).alloc (Nat.le_refl _) (.cells #[.int .i64 b.1, .int .i64 b.2] 65)
  have h1 := h.below hB
  have h2 := h1.below (Below.refl _ _).drew
  obtain ⟨v', w2, hrun, happ⟩ := run_appB_one (P := Tryz.prog) (w := (w.alloc (.cells #[.int .i64 b.1, .int .i64 b.2] 65)).drew) base 205 205 65 Tryz.underlying205 Tryz.infoBlk rfl v l h2.own b (by omega) (Nat.le_trans hb hB.size)
  obtain ⟨A, n, c, hv⟩ : ∃ A n c, v = .slice A n c := by
    obtain ⟨A, c, e, _⟩ := h.own.shape rfl
    exact ⟨_, _, _, e⟩
  obtain ⟨A', n', c', hv'⟩ : ∃ A n c, v' = .slice A n c := by
    obtain ⟨A, c, e, _⟩ := happ.1.shape rfl
    exact ⟨_, _, _, e⟩
  obtain ⟨c0, c00⟩ := two_allocs (p := ⟨g, 0, none⟩) h.at_.lt (h.at_.cell 0)
  have hgv : some g ≠ v.ownBlock := fun e => h.off e.symm
  have W2 : Whole w2 g 207 [v] := h2.at_.keep (happ.2.1.block g h2.at_.lt hgv)
  have cw := W2.cell 0
  have fw := W2.free 0
  have HW := Lib.hid W2
  have Hap := Lib.hid happ
  have HB := Lib.hid hB
  have H := Lib.hid h
  have hgd := Lib.hid hgv
  clear h h1 h2 hB W2 happ hgv
  obtain ⟨x, o⟩ := b
  unfold bval enc2
  simp only at *
  subst hv
  subst hv'
  have hrun2 : Sem.run Tryz.prog (Builtin.append_ #[205, 205] 205 #[.slice A n c, .slice (some ⟨w.heap.size + 1, 0, none⟩) 1 1]) ((w.alloc (.cells #[.int .i64 x, .int .i64 o] 65)).alloc (.cells #[.int .i64 x, .int .i64 o] 65)).drew = .ok (.slice A' n' c') w2 := by
    have e : (w.alloc (.cells #[.int .i64 x, .int .i64 o] 65)).drew.heap.size = w.heap.size + 1 := by simp
    rw [e] at hrun
    exact hrun
  clear hrun
  go_enter Tryz.func200, Tryz.ntmps200
  go_wp2_with fail
  go_region_law (refine step_append_run hrun2 rfl (.tmp 7) (.tmp 9) rfl rfl rfl rfl ?_)
  all_goals
    go_end0
    exact ⟨rfl, _, waits_store H.out (HB.out.trans ((Below.refl _ _).drew.mono HB.out.size)) Hap.out.1 Hap.out.2.1 Hap.out.2.2⟩
set_option maxHeartbeats 2000000 in
theorem pop_any (base g : Nat) (v : Value) (l : List Blk) (m : Nat) (w : World) (h : QAt w base g v l) (hl : l.length = m + 1) (h2 : m ≤ 1000) :
    Calls Tryz.prog 201 #[.pointer (some ⟨g, 0, none⟩)] w fun e w' => e = .returned (bval (nth l m)) ∧ ∃ v', Waits w base g v (l.take m) v' w' := by
  obtain ⟨r, cap, rfl, _, hr, hc, hcm⟩ := h.own.form hl (by omega)
  obtain ⟨c0, c00⟩ := two_allocs (p := ⟨g, 0, none⟩) h.at_.lt (h.at_.cell 0)
  obtain ⟨a0, a1⟩ := h.own.cell hl (nth_get (show m < l.length by omega))
  obtain ⟨a0', a0''⟩ := two_allocs (p := ⟨r, m * 2, none⟩) hr a0
  obtain ⟨a1', a1''⟩ := two_allocs (p := ⟨r, m * 2 + 1, none⟩) hr a1
  have hcut := h.own.cut hl (show m ≤ m + 1 by omega)
  have hg := h.at_.lt
  have f0 : ∀ o o', ((w.alloc o).alloc o').frozen? ⟨g, 0, none⟩ = false := fun o o' => by
    have b := ((Below.refl w.heap.size w).alloc (Nat.le_refl _) o).alloc (by simp) o'
    exact (h.at_.below b).free 0
  have g1 : w.heap.size + 1 ≠ g := by omega
  have g2 : w.heap.size ≠ g := by omega
  have g3 : g ≠ w.heap.size + 1 := by omega
  have g4 : g ≠ w.heap.size := by omega
  obtain ⟨⟨x, o⟩, hx⟩ : ∃ x, x = nth l m := ⟨_, rfl⟩
  rw [← hx] at a0 a1 a0' a1' a0'' a1'' ⊢
  unfold bval enc2
  simp only at *
  have k1 : (m : Int) < ((m + 1 : Nat) : Int) := by omega
  have k2 : ((m + 1 : Nat) : Int) - 1 = (m : Int) := by omega
  have H := Lib.hid h
  have Hcut := Lib.hid hcut
  unfold maxLen at hcm
  clear h hcut hx hl
  go_enter Tryz.func201, Tryz.ntmps201
  go_wp2
  have hW : Waits w base g (.slice (some ⟨r, 0, none⟩) (m + 1) cap) (l.take m) (.slice (some ⟨r, 0, none⟩) m cap) (w.setCell ⟨g, 0, none⟩ (.slice (some ⟨r, 0, none⟩) m cap)) :=
    waits_store H.out (Below.refl _ _) Hcut.out (grown_refl _ _) (.inl rfl)
  have hs : (w.setCell ⟨g, 0, none⟩ (.slice (some ⟨r, 0, none⟩) m cap)).heap.size = w.heap.size := by simp [World.setCell]
  generalize w.setCell ⟨g, 0, none⟩ (.slice (some ⟨r, 0, none⟩) m cap) = w1 at hW hs ⊢
  have B1 := (Box2.new w1 (x, o) 65).alloc (.cells #[.int .i64 x, .int .i64 o] 65)
  rw [hs] at B1
  refine bodyPost_ret (results_box (b := (x, o)) rfl _ _ w.heap.size rfl B1.c0 B1.c1) rfl ?_
  exact ⟨rfl, _, hW.below (((Below.refl _ _).alloc (Nat.le_refl _) _).alloc (by simp) _)⟩
end Go.Proofs.YtlnmmklpccppmaaGreatDoor
